package euler_test

import (
	"math/rand/v2"
	"slices"
	"testing"

	"parquetry/api"
	"parquetry/dart"
	"parquetry/euler"
	"parquetry/samples"
)

// turned answers the map whose vertices' darts are these, counter-clockwise.
func turned(t *testing.T, lone int, vertices ...[]int) *dart.Map {
	t.Helper()
	sigma := samples.Sigma(vertices...)
	return samples.Map(t, sigma, rootOf(sigma), lone)
}

// rootOf is a root of a map of these darts.
func rootOf(sigma []int) int {
	if len(sigma) == 0 {
		return -1
	}
	return len(sigma) / 2
}

// orbits answers of each number the least one of its orbit.
func orbits(to func(d int) int, n int) []int {
	least := make([]int, n)
	for d := range least {
		least[d] = d
		for at := to(d); at != d; at = to(at) {
			least[d] = min(least[d], at)
		}
	}
	return least
}

// parts answers of each dart the least one of its part.
func parts(m *dart.Map) []int {
	least := make([]int, m.Darts())
	for d := range least {
		least[d] = d
	}
	for changed := true; changed; {
		changed = false
		for d := range least {
			for _, other := range []int{m.Sigma(d), m.Mate(d)} {
				if low := min(least[d], least[other]); least[d] != low || least[other] != low {
					least[d], least[other], changed = low, low, true
				}
			}
		}
	}
	return least
}

// model is what a map is like.
type model struct {
	parts          []euler.Part
	names          []int
	loops, doubles int
	triangles      bool
}

// modelOf answers what m is like, looked up dart by dart.
func modelOf(m *dart.Map) model {
	want := model{triangles: true}
	vertices, borders := orbits(m.Sigma, m.Darts()), orbits(m.Phi, m.Darts())
	places := map[int]int{}
	for d, least := range parts(m) {
		if d == least {
			places[d] = len(want.parts)
			want.parts = append(want.parts, euler.Part{Root: d})
		}
		part := &want.parts[places[least]]
		want.names = append(want.names, places[least])
		if vertices[d] == d {
			part.Vertices++
		}
		if borders[d] == d {
			part.Borders++
			want.triangles = want.triangles && len(m.Border(d)) == 3
		}
		if d%2 == 0 {
			part.Edges++
		}
	}
	for i, part := range want.parts {
		want.parts[i].Genus = (2 - part.Vertices + part.Edges - part.Borders) / 2
	}
	for range m.Lone() {
		want.parts = append(want.parts, euler.Part{Root: -1, Vertices: 1, Edges: 0, Borders: 1, Genus: 0})
	}
	for d := 0; d < m.Darts(); d += 2 {
		if vertices[d] == vertices[d+1] {
			want.loops++
		} else if hasDouble(vertices, d) {
			want.doubles++
		}
	}
	return want
}

// hasDouble tells whether an edge ahead of d's is between the same vertices.
func hasDouble(vertices []int, d int) bool {
	u, v := vertices[d], vertices[d+1]
	for other := 0; other < d; other += 2 {
		x, y := vertices[other], vertices[other+1]
		if x == u && y == v || x == v && y == u {
			return true
		}
	}
	return false
}

// check holds all that is told of m against its model.
func check(t *testing.T, m *dart.Map) {
	t.Helper()
	want := modelOf(m)
	if got := euler.Parts(m); !slices.Equal(got, want.parts) {
		t.Fatalf("of %v and %d: Parts %v, want %v", m.List(), m.Lone(), got, want.parts)
	}
	if got := euler.Names(m); !slices.Equal(got, want.names) {
		t.Fatalf("of %v and %d: Names %v, want %v", m.List(), m.Lone(), got, want.names)
	}
	genus := 0
	for _, part := range want.parts {
		genus += part.Genus
	}
	if got := euler.Genus(m); got != genus || euler.Planar(m) != (genus == 0) {
		t.Fatalf("of %v and %d: Genus %d, want %d; Planar %v", m.List(), m.Lone(), got, genus, euler.Planar(m))
	}
	connected, simple := len(want.parts) == 1, want.loops == 0 && want.doubles == 0
	if euler.Connected(m) != connected {
		t.Fatalf("of %v and %d: Connected %v", m.List(), m.Lone(), !connected)
	}
	if loops, doubles := euler.Loops(m), euler.Doubles(m); loops != want.loops || doubles != want.doubles {
		t.Fatalf("of %v: Loops %d, want %d; Doubles %d, want %d", m.List(), loops, want.loops, doubles, want.doubles)
	}
	if euler.Simple(m) != simple {
		t.Fatalf("of %v: Simple %v", m.List(), !simple)
	}
	triangulation := connected && genus == 0 && simple && m.Vertices() >= 3 && want.triangles
	if euler.Triangulation(m) != triangulation {
		t.Fatalf("of %v and %d: Triangulation %v", m.List(), m.Lone(), !triangulation)
	}
}

func TestP8_AllSmall(t *testing.T) {
	for n := 0; n <= 6; n += 2 {
		for _, sigma := range samples.Perms(n) {
			check(t, samples.Map(t, sigma, rootOf(sigma), 0))
			check(t, samples.Map(t, sigma, rootOf(sigma), 2))
		}
	}
}

func TestP8_Random(t *testing.T) {
	r := rand.New(rand.NewPCG(31, 32))
	for _, n := range []int{8, 10, 16, 50, 200} {
		for range 20 {
			for _, sigma := range [][]int{r.Perm(n), samples.Split(r.IntN, n)} {
				for lone := range 3 {
					check(t, samples.Map(t, sigma, r.IntN(n), lone))
				}
			}
		}
	}
}

// thing is a map that is known, and what it is like.
type thing struct {
	name            string
	m               *dart.Map
	parts           int
	genus           int
	loops, doubles  int
	isTriangulation bool
}

// plain are maps of one part that are planar and simple, or of less.
func plain(t *testing.T) []thing {
	return []thing{
		{name: "nothing", m: turned(t, 0)},
		{name: "a lone vertex", m: turned(t, 1), parts: 1},
		{name: "three lone vertices", m: turned(t, 3), parts: 3},
		{name: "an edge", m: turned(t, 0, []int{0}, []int{1}), parts: 1},
		{name: "a path of two edges", m: turned(t, 0, []int{0}, []int{1, 2}, []int{3}), parts: 1},
		{name: "a triangle", m: samples.Faced(t, []int{0, 1, 2}, []int{0, 2, 1}), parts: 1, isTriangulation: true},
		{name: "a square", m: samples.Faced(t, []int{0, 1, 2, 3}, []int{3, 2, 1, 0}), parts: 1},
		{name: "a square with a chord", m: samples.Faced(t, []int{0, 1, 2}, []int{0, 2, 3}, []int{3, 2, 1, 0}), parts: 1},
		{name: "a square with a chord, its outside first", m: samples.Faced(t, []int{3, 2, 1, 0}, []int{0, 1, 2}, []int{0, 2, 3}), parts: 1},
		{name: "a tetrahedron", m: tetrahedron(t), parts: 1, isTriangulation: true},
		{name: "an octahedron", m: samples.Faced(t, samples.Wheel(6)...), parts: 1, isTriangulation: true},
		{name: "a triangle and a lone vertex", m: turned(t, 1, []int{0, 5}, []int{1, 2}, []int{3, 4}), parts: 2},
		{name: "two triangles", m: turned(t, 0, []int{0, 5}, []int{1, 2}, []int{3, 4}, []int{6, 11}, []int{7, 8}, []int{9, 10}), parts: 2},
		{name: "two tetrahedra, one of them alone", m: samples.Beside(t, tetrahedron(t), tetrahedron(t)), parts: 2},
	}
}

// other are maps that aren't planar, or aren't simple.
func other(t *testing.T) []thing {
	return []thing{
		{name: "a loop", m: turned(t, 0, []int{0, 1}), parts: 1, loops: 1},
		{name: "a loop within a loop", m: turned(t, 0, []int{0, 1, 2, 3}), parts: 1, loops: 2},
		{name: "two loops crossed", m: turned(t, 0, []int{0, 2, 1, 3}), parts: 1, genus: 1, loops: 2},
		{name: "two times two loops crossed", m: turned(t, 2, []int{0, 2, 1, 3}, []int{4, 6, 5, 7}), parts: 4, genus: 2, loops: 4},
		{name: "two loops crossed, and a triangle", m: samples.Beside(t, turned(t, 0, []int{0, 2, 1, 3}), samples.Faced(t, []int{0, 1, 2}, []int{0, 2, 1})), parts: 2, genus: 1, loops: 2},
		{name: "two edges side by side", m: turned(t, 0, []int{0, 2}, []int{1, 3}), parts: 1, doubles: 1},
		{name: "two edges side by side, one turned", m: turned(t, 0, []int{0, 3}, []int{1, 2}), parts: 1, doubles: 1},
		{name: "three edges side by side", m: turned(t, 0, []int{0, 2, 4}, []int{5, 3, 1}), parts: 1, doubles: 2},
		{name: "three edges on a torus", m: turned(t, 0, []int{0, 2, 4}, []int{1, 3, 5}), parts: 1, genus: 1, doubles: 2},
		{name: "one vertex of triangles on a torus", m: turned(t, 0, []int{0, 2, 4, 1, 3, 5}), parts: 1, genus: 1, loops: 3},
		{name: "triangles with a loop between", m: turned(t, 0, []int{0, 2, 1, 4}, []int{3}, []int{5}), parts: 1, loops: 1},
		{name: "triangles with an edge doubled", m: doubled(t), parts: 1, doubles: 1},
		{name: "seven neighbours of each other on a torus", m: samples.Faced(t, samples.Torus()...), parts: 1, genus: 1},
	}
}

// tetrahedron answers the triangulation of four vertices.
func tetrahedron(t *testing.T) *dart.Map {
	return samples.Faced(t, []int{0, 1, 2}, []int{0, 3, 1}, []int{1, 3, 2}, []int{2, 3, 0})
}

// doubled answers a planar map of triangles with two edges between the same
// two vertices: one vertex within them, one without, each with edges to both.
func doubled(t *testing.T) *dart.Map {
	return turned(t, 0, []int{0, 4, 2, 8}, []int{1, 10, 3, 6}, []int{5, 7}, []int{9, 11})
}

func TestP8_Known(t *testing.T) {
	for _, x := range append(plain(t), other(t)...) {
		check(t, x.m)
		if n := len(euler.Parts(x.m)); n != x.parts || euler.Connected(x.m) != (x.parts == 1) {
			t.Errorf("%s: %d parts, Connected %v", x.name, n, euler.Connected(x.m))
		}
		if g := euler.Genus(x.m); g != x.genus || euler.Planar(x.m) != (x.genus == 0) {
			t.Errorf("%s: Genus %d, Planar %v", x.name, g, euler.Planar(x.m))
		}
		if l, d := euler.Loops(x.m), euler.Doubles(x.m); l != x.loops || d != x.doubles || euler.Simple(x.m) != (l+d == 0) {
			t.Errorf("%s: Loops %d, Doubles %d, Simple %v", x.name, l, d, euler.Simple(x.m))
		}
		if euler.Triangulation(x.m) != x.isTriangulation {
			t.Errorf("%s: Triangulation %v", x.name, !x.isTriangulation)
		}
	}
}

// TestP8_2TrianglesAlone asks for maps of triangles that are no
// triangulations: it is not their borders that keep them from it.
func TestP8_2TrianglesAlone(t *testing.T) {
	for _, m := range []*dart.Map{
		samples.Beside(t, tetrahedron(t), tetrahedron(t)), samples.Faced(t, samples.Torus()...), doubled(t),
		turned(t, 0, []int{0, 2, 1, 4}, []int{3}, []int{5}), turned(t, 0, []int{0, 2, 4, 1, 3, 5}),
	} {
		if !modelOf(m).triangles || euler.Triangulation(m) {
			t.Errorf("of %v: Triangulation %v", m.List(), euler.Triangulation(m))
		}
	}
}

func TestP8_1Parts(t *testing.T) {
	// Between the darts of one part stand those of the other.
	m := turned(t, 2, []int{6, 5}, []int{0, 2, 1, 3}, []int{4}, []int{7})
	want := []euler.Part{
		{Root: 0, Vertices: 1, Edges: 2, Borders: 1, Genus: 1},
		{Root: 4, Vertices: 3, Edges: 2, Borders: 1, Genus: 0},
		{Root: -1, Vertices: 1, Edges: 0, Borders: 1, Genus: 0},
		{Root: -1, Vertices: 1, Edges: 0, Borders: 1, Genus: 0},
	}
	if got := euler.Parts(m); !slices.Equal(got, want) {
		t.Fatal(got)
	}
	if got := euler.Names(m); !slices.Equal(got, []int{0, 0, 0, 0, 1, 1, 1, 1}) {
		t.Fatal(got)
	}
	m = turned(t, 0, []int{0, 7}, []int{1, 6}, []int{2, 5}, []int{3, 4})
	if got := euler.Names(m); !slices.Equal(got, []int{0, 0, 1, 1, 1, 1, 0, 0}) {
		t.Fatal(got)
	}
}

func TestP8_1NewMemory(t *testing.T) {
	m := turned(t, 1, []int{0, 2}, []int{1, 3})
	clear(euler.Parts(m))
	clear(euler.Names(m))
	check(t, m)
}

func TestP8_1AnyRoot(t *testing.T) {
	for _, x := range append(plain(t), other(t)...) {
		for d := range x.m.Darts() {
			m, e := x.m.Rooted(d)
			if e != api.OK || !slices.Equal(euler.Parts(m), euler.Parts(x.m)) || !slices.Equal(euler.Names(m), euler.Names(x.m)) {
				t.Fatalf("%s, with the root %d: %v", x.name, d, e)
			}
		}
	}
}

func TestP8_2Doubles(t *testing.T) {
	for _, x := range []struct {
		m    *dart.Map
		want int
	}{
		{turned(t, 0, []int{0, 3, 4, 7}, []int{1, 2, 5, 6}), 3},
		{turned(t, 0, []int{0, 1, 2, 3}, []int{4, 6}, []int{5, 7}), 1},
		{turned(t, 0, []int{0, 2, 5}, []int{1, 7}, []int{3, 4, 6}), 1},
		{turned(t, 0, []int{0, 2}, []int{1, 4, 6}, []int{3, 5, 7}), 1},
		{turned(t, 0, []int{0, 2}, []int{1}, []int{3}), 0},
	} {
		if got := euler.Doubles(x.m); got != x.want {
			t.Errorf("of %v: Doubles %d, want %d", x.m.List(), got, x.want)
		}
	}
}

func TestP8_Large(t *testing.T) {
	n := 2 * api.MaxEdges
	for _, x := range []struct {
		sigma                        []int
		parts, genus, loops, doubles int
	}{
		{sigma: samples.Each(n, func(d int) int { return (d + 1) % n }), parts: 1, loops: n / 2},
		{sigma: samples.Each(n, func(d int) int { return (d + 2) % n }), parts: 1, genus: (n/2 - 2) / 2, doubles: n/2 - 1},
		{sigma: samples.Each(n, func(d int) int { return d }), parts: n / 2},
		{sigma: samples.Path(n), parts: 1},
	} {
		for _, lone := range []int{0, api.MaxLone} {
			m := samples.Map(t, x.sigma, 0, lone)
			if n := len(euler.Parts(m)); n != x.parts+lone || euler.Connected(m) != (n == 1) {
				t.Fatal(n, euler.Connected(m))
			}
			if g, l, d := euler.Genus(m), euler.Loops(m), euler.Doubles(m); g != x.genus || l != x.loops || d != x.doubles {
				t.Fatal(g, l, d)
			}
			if euler.Planar(m) != (x.genus == 0) || euler.Simple(m) != (x.loops+x.doubles == 0) || euler.Triangulation(m) {
				t.Fatal(euler.Planar(m), euler.Simple(m), euler.Triangulation(m))
			}
		}
	}
}

func TestP8_Nil(t *testing.T) {
	if p, n := euler.Parts(nil), euler.Names(nil); len(p) != 0 || len(n) != 0 {
		t.Fatal(p, n)
	}
	if g, l, d := euler.Genus(nil), euler.Loops(nil), euler.Doubles(nil); g != 0 || l != 0 || d != 0 {
		t.Fatal(g, l, d)
	}
	for name, call := range map[string]func(*dart.Map) bool{
		"Planar": euler.Planar, "Connected": euler.Connected, "Simple": euler.Simple, "Triangulation": euler.Triangulation,
	} {
		if call(nil) {
			t.Error(name)
		}
	}
}

func TestExamples(t *testing.T) {
	loop := samples.Map(t, []int{1, 0}, 0, 0)
	if !euler.Planar(loop) || euler.Simple(loop) {
		t.Fatal(euler.Planar(loop), euler.Simple(loop))
	}
	m := samples.Map(t, []int{1, 2, 3, 0}, 0, 0)
	if got := euler.Parts(m); !slices.Equal(got, []euler.Part{{Root: 0, Vertices: 1, Edges: 2, Borders: 3, Genus: 0}}) {
		t.Fatal(got)
	}
	if euler.Genus(m) != 0 {
		t.Fatal(euler.Genus(m))
	}
}

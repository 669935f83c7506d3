package canon_test

import (
	"math/rand/v2"
	"slices"
	"testing"

	"parquetry/api"
	"parquetry/canon"
	"parquetry/dart"
	"parquetry/euler"
	"parquetry/samples"
)

// shapeModel is how many darts of m there are such that m with that root is
// Iso to m; of a map of more parts, or without darts, 0.
func shapeModel(t *testing.T, m *dart.Map) int {
	t.Helper()
	if !euler.Connected(m) {
		return 0
	}
	want := canonOf(t, m)
	n := 0
	for d := range m.Darts() {
		if dart.Same(canonOf(t, samples.Rooted(t, m, d)), want) {
			n++
		}
	}
	return n
}

// checkShape holds Shape of m, with each root, against the model.
func checkShape(t *testing.T, m *dart.Map) {
	t.Helper()
	want := shapeModel(t, m)
	for d := range m.Darts() {
		if got := canon.Shape(samples.Rooted(t, m, d)); got != want {
			t.Fatalf("Shape of %v, %d, %d: %d, want %d", m.List(), d, m.Lone(), got, want)
		}
	}
}

func TestP11_2ShapeAllSmall(t *testing.T) {
	for n := 2; n <= 6; n += 2 {
		for _, sigma := range samples.Perms(n) {
			checkShape(t, samples.Map(t, sigma, 0, 0))
			checkShape(t, samples.Map(t, sigma, n-1, 1))
		}
	}
}

func TestP11_2ShapeRandom(t *testing.T) {
	r := rand.New(rand.NewPCG(71, 72))
	for _, n := range []int{8, 10, 12, 20} {
		for range 60 {
			checkShape(t, samples.Map(t, r.Perm(n), 0, 0))
			checkShape(t, samples.Map(t, samples.Split(r.IntN, n), 0, 0))
		}
	}
}

// chords answers a map of one vertex around which the darts stand one behind
// the other, some edges between: its turns are those of the chords.
func chords(t *testing.T, places []int) *dart.Map {
	t.Helper()
	sigma := make([]int, len(places))
	for i, d := range places {
		sigma[d] = places[(i+1)%len(places)]
	}
	return samples.Map(t, sigma, 0, 0)
}

// repeated answers places whose chords repeat each other so many times, but
// for some that are changed in the first of these pieces.
func repeated(r *rand.Rand, edges, times int, changed bool) []int {
	piece := r.Perm(2 * edges)
	var places []int
	for k := range times {
		for _, d := range piece {
			places = append(places, d+2*edges*k)
		}
	}
	if changed {
		i, j := r.IntN(2*edges), r.IntN(2*edges)
		places[i], places[j] = places[j], places[i]
	}
	return places
}

func TestP11_2ShapeChords(t *testing.T) {
	r := rand.New(rand.NewPCG(73, 74))
	for _, edges := range []int{1, 2, 3} {
		for _, times := range []int{1, 2, 3, 4, 6} {
			for range 8 {
				checkShape(t, chords(t, repeated(r, edges, times, false)))
				checkShape(t, chords(t, repeated(r, edges, times, true)))
			}
		}
	}
}

// sheets answers a map of so many vertices that all look alike: at each stand
// the eight darts of four edges, that lead by a, b, b and a from vertex to
// vertex; so each face has eight darts, whatever a and b are.
func sheets(t *testing.T, a, b []int) *dart.Map {
	t.Helper()
	n := len(a)
	// The four edges from each vertex k: 8k to 8k + 6 go out of it, the odd
	// ones come in where these lead.
	sigma := make([]int, 8*n)
	leads := [4][]int{a, b, b, a}
	in := func(k, edge int) int { return 8*slices.Index(leads[edge], k) + 2*edge + 1 }
	for k := range n {
		out := 8 * k
		around := []int{out, in(k, 1), in(k, 0), out + 2, out + 4, in(k, 3), in(k, 2), out + 6}
		for i, d := range around {
			sigma[d] = around[(i+1)%len(around)]
		}
	}
	return samples.Map(t, sigma, 0, 0)
}

// TestP11_2ShapeSheets asks for maps whose darts look alike as far as Sigma
// and Mate tell, but that turn into themselves in few ways, or in one.
func TestP11_2ShapeSheets(t *testing.T) {
	r := rand.New(rand.NewPCG(75, 76))
	alike := 0
	for range 60 {
		n := 2 + r.IntN(6)
		turn := make([]int, n)
		for k := range turn {
			turn[k] = (k + 1) % n
		}
		for _, b := range [][]int{r.Perm(n), turn} {
			m := sheets(t, turn, b)
			checkShape(t, m)
			if !allAlike(m) {
				t.Fatalf("%v and %v: not all look alike", turn, b)
			}
			if canon.Shape(m) < m.Vertices() {
				alike++
			}
		}
	}
	if alike == 0 {
		t.Fatal("no map's darts look alike without being it")
	}
}

// allAlike tells whether all vertices have eight darts, and all borders.
func allAlike(m *dart.Map) bool {
	for d := range m.Darts() {
		if len(m.Around(d)) != 8 || len(m.Border(d)) != 8 {
			return false
		}
	}
	return true
}

// grid answers the map of squares on a torus, w wide and h high; what goes up
// out of it comes in again twist further to the right.
func grid(t *testing.T, w, h, twist int) *dart.Map {
	t.Helper()
	at := func(x, y int) int {
		x += twist * ((y + h) / h)
		return (y+h)%h*w + (x-twist+w*(twist+1))%w
	}
	sigma := make([]int, 4*w*h)
	for y := range h {
		for x := range w {
			right, up := 4*at(x, y), 4*at(x, y)+2
			left, down := 4*at(x-1, y)+1, 4*at(x, y-1)+3
			sigma[right], sigma[up], sigma[left], sigma[down] = up, left, down, right
		}
	}
	return samples.Map(t, sigma, 0, 0)
}

// solids are maps of which it is known how often they turn into themselves.
func solids(t *testing.T) map[int]*dart.Map {
	var icosahedron [][]int
	for i := range 5 {
		j := (i + 1) % 5
		icosahedron = append(icosahedron, []int{i, j, 10}, []int{j, i, 5 + i}, []int{5 + i, 5 + j, j}, []int{5 + j, 5 + i, 11})
	}
	return map[int]*dart.Map{
		6:  samples.Faced(t, []int{0, 1, 2}, []int{2, 1, 0}),
		12: samples.Faced(t, []int{0, 1, 2}, []int{0, 3, 1}, []int{1, 3, 2}, []int{2, 3, 0}),
		24: samples.Faced(t, samples.Wheel(6)...),
		60: samples.Faced(t, icosahedron...),
		42: samples.Faced(t, samples.Torus()...),
		20: grid(t, 5, 1, 2),
		36: grid(t, 3, 3, 0),
		16: grid(t, 4, 2, 0),
		10: grid(t, 5, 1, 0),
		1:  samples.Turned(t, 0, 0, []int{0}, []int{1, 2, 4}, []int{3}, []int{5, 6}, []int{7}),
	}
}

func TestP11_2ShapeKnown(t *testing.T) {
	for want, m := range solids(t) {
		if got := canon.Shape(m); got != want || shapeModel(t, m) != want {
			t.Errorf("Shape of %v: %d, want %d, by the model %d", m.List(), got, want, shapeModel(t, m))
		}
		checkShape(t, m)
	}
}

// TestP11_2ShapeCounts holds Shape against how many roots are not alike: each
// kind of roots has as many darts.
func TestP11_2ShapeCounts(t *testing.T) {
	for want, m := range solids(t) {
		met := map[string]int{}
		for d := range m.Darts() {
			met[string(runesOf(canonOf(t, samples.Rooted(t, m, d)).List()))]++
		}
		for _, n := range met {
			if n != want || len(met)*n != m.Darts() {
				t.Fatalf("of %v: %d roots of a kind, want %d", m.List(), n, want)
			}
		}
	}
}

// runesOf answers a list as a key.
func runesOf(l []int) []rune {
	var key []rune
	for _, x := range l {
		key = append(key, rune(x))
	}
	return key
}

func TestP11_2ShapeOfParts(t *testing.T) {
	for _, m := range []*dart.Map{
		samples.Map(t, nil, -1, 0), samples.Map(t, nil, -1, 1), samples.Map(t, nil, -1, 7),
		samples.Turned(t, 0, 1, []int{0}, []int{1}),
		samples.Turned(t, 0, 0, []int{0}, []int{1}, []int{2}, []int{3}),
		samples.Turned(t, 3, 2, []int{0, 1}, []int{2, 3}),
	} {
		if got := canon.Shape(m); got != 0 {
			t.Errorf("Shape of %v, %d: %d", m.List(), m.Lone(), got)
		}
	}
}

// TestP11_2ShapeLarge asks for the turns of what is as large as can be.
func TestP11_2ShapeLarge(t *testing.T) {
	n := 2 * api.MaxEdges
	hung := samples.Path(n)
	// A dart more at one vertex of a path, its edge's other end at another.
	hung[1], hung[n-1] = n-1, 2
	for _, x := range []struct {
		name  string
		sigma []int
		want  int
	}{
		{"a path", samples.Path(n), 2},
		{"a path that bites itself", hung, 1},
		{"a round", samples.Each(n, func(d int) int { return []int{(d + n - 1) % n, (d + 1) % n}[d%2] }), n},
		{"a star", samples.Each(n, func(d int) int { return []int{(d + 2) % n, d}[d%2] }), n / 2},
		{"loops side by side", samples.Each(n, func(d int) int { return (d + 1) % n }), n / 2},
		{"edges side by side", samples.Each(n, func(d int) int { return []int{(d + 2) % n, (d + n - 2) % n}[d%2] }), n},
		{"edges side by side, crossed", samples.Each(n, func(d int) int { return (d + 2) % n }), n},
		{"squares on a torus", grid(t, 256, 128, 0).List(), n / 2},
		{"squares on a torus, twisted", grid(t, 128, 256, 17).List(), n / 2},
		{"as many as squares on a torus", grid(t, 181, 181, 0).List(), 4 * 181 * 181},
	} {
		for _, root := range []int{0, len(x.sigma)/2 + 1} {
			if got := canon.Shape(samples.Map(t, x.sigma, root, 0)); got != x.want {
				t.Errorf("%s, from %d: Shape %d, want %d", x.name, root, got, x.want)
			}
		}
	}
}

package wood_test

import (
	"math"
	"math/rand/v2"
	"regexp"
	"slices"
	"sync"
	"testing"

	"parquetry/api"
	"parquetry/dart"
	"parquetry/samples"
	"parquetry/shell"
	"parquetry/wood"
)

// none is no color, and no vertex.
const none = -1

// noColors are numbers of no color.
var noColors = []int{math.MinInt, -2, -1, 3, 4, math.MaxInt}

// uncolored answers of each dart of m that it doesn't go out.
func uncolored(m *dart.Map) []int { return slices.Repeat([]int{none}, m.Darts()) }

// corners answers v1, v2 and c.
func corners(m *dart.Map) []int {
	d := m.Root()
	return []int{m.Vertex(d), m.Vertex(m.Mate(d)), m.Vertex(m.Phi(m.Phi(d)))}
}

// dartTo answers the dart of u whose Mate is at v, or none.
func dartTo(m *dart.Map, u, v int) int {
	for d := range m.Darts() {
		if m.Vertex(d) == u && m.Vertex(m.Mate(d)) == v {
			return d
		}
	}
	return none
}

// modelOut answers how the darts go out as the vertices go, one after the
// other, from the border.
func modelOut(m *dart.Map) []int {
	out, c := uncolored(m), corners(m)
	border, gone := []int{c[0], c[2], c[1]}, make([]bool, m.Vertices())
	for len(border) > 2 {
		i := 1
		for !isFree(m, border, i) {
			i++
		}
		v, ahead, behind := border[i], border[i-1], border[i+1]
		if v != c[2] {
			out[dartTo(m, v, ahead)], out[dartTo(m, v, behind)] = 1, 2
		}
		var come []int
		for _, d := range m.Around(dartTo(m, v, ahead)) {
			u := m.Vertex(m.Mate(d))
			if !gone[u] && !slices.Contains(border, u) {
				out[m.Mate(d)] = 0
				come = append(come, u)
			}
		}
		gone[v] = true
		border = slices.Concat(border[:i], come, border[i+1:])
	}
	return out
}

// isFree tells whether of the border's vertices the i-th one has an edge to
// those beside it alone.
func isFree(m *dart.Map, border []int, i int) bool {
	for j, u := range border {
		if j != i && (dartTo(m, border[i], u) != none) != (j == i-1 || j == i+1) {
			return false
		}
	}
	return true
}

// The letters of darts: A, B and C go out with 0, 1 and 2, and a, b and c come
// in with them; where an edge has no color it is a point, where it goes out at
// both ends a cross.
var inner = regexp.MustCompile("^Ac*Ba*Cb*$")

// letters answers those of the darts around d's vertex, from d on.
func letters(m *dart.Map, out []int, d int) string {
	var s []byte
	for _, at := range m.Around(d) {
		goes, comes := out[at], out[m.Mate(at)]
		switch {
		case goes != none && comes != none:
			s = append(s, 'x')
		case goes != none:
			s = append(s, "ABC"[goes])
		case comes != none:
			s = append(s, "abc"[comes])
		default:
			s = append(s, '.')
		}
	}
	return string(s)
}

// modelIsWood tells whether it is a wood in which the darts go out so, by the
// letters around each vertex.
func modelIsWood(m *dart.Map, out []int) bool {
	c := corners(m)
	around := [3]*regexp.Regexp{regexp.MustCompile("^[.b]*$"), regexp.MustCompile("^[.c]*$"), regexp.MustCompile("^[.a]*$")}
	right := make([]int, m.Vertices())
	for d := range m.Darts() {
		v, u := m.Vertex(d), m.Vertex(m.Mate(d))
		k := slices.Index(c, v)
		if k < 0 {
			if inner.MatchString(letters(m, out, d)) {
				right[v]++
			}
			continue
		}
		right[v] = 1
		if !around[k].MatchString(letters(m, out, d)) || (letters(m, out, d)[0] == '.') != slices.Contains(c, u) {
			return false
		}
	}
	return !slices.Contains(right, 0)
}

// drafts hands to use all ways to let three darts of each vertex that is no
// corner go out, with the three colors, such that no edge goes out twice.
func drafts(m *dart.Map, use func(out []int)) {
	out := uncolored(m)
	c := corners(m)
	var color func(v, k int)
	color = func(v, k int) {
		switch {
		case v == m.Vertices():
			use(out)
			return
		case k == 3 || slices.Contains(c, v):
			color(v+1, 0)
			return
		}
		for d := range out {
			if m.Vertex(d) == v && out[d] == none && out[m.Mate(d)] == none {
				out[d] = k
				color(v, k+1)
				out[d] = none
			}
		}
	}
	color(0, 0)
}

// wooded answers the wood of out, that is one.
func wooded(t *testing.T, m *dart.Map, out []int) *wood.Wood {
	t.Helper()
	w, e := wood.Make(m, out)
	if e != api.OK || w == nil {
		t.Fatalf("Make of %v, %d, %v: %v", m.List(), m.Root(), out, e)
	}
	return w
}

// checkWood holds all that w tells against the colors with which darts go out.
func checkWood(t *testing.T, w *wood.Wood, m *dart.Map, out []int) {
	t.Helper()
	if !dart.Same(w.Map(), m) || !slices.Equal(w.List(), out) {
		t.Fatalf("of %v, %d: List %v, want %v", m.List(), m.Root(), w.List(), out)
	}
	for d, want := range out {
		if w.Out(d) != want {
			t.Fatalf("Out(%d) of %v: %d", d, out, w.Out(d))
		}
	}
	met := 0
	for d := range m.Darts() {
		v := m.Vertex(d)
		if v < met {
			continue
		}
		met++
		for color, end := range []int{corners(m)[2], corners(m)[0], corners(m)[1]} {
			checkColor(t, w, m, out, d, color)
			path := w.Path(v, color)
			if !slices.Contains(corners(m), v) && path[len(path)-1] != end {
				t.Fatalf("Path(%d, %d) of %v, %d: %v, not to %d", v, color, m.List(), m.Root(), path, end)
			}
		}
	}
	checkNone(t, w, m)
}

// checkColor holds what w tells of d's vertex, whose least dart d is, and of a
// color against the colors with which darts go out.
func checkColor(t *testing.T, w *wood.Wood, m *dart.Map, out []int, d, color int) {
	t.Helper()
	v, parent := m.Vertex(d), none
	var children []int
	for _, at := range m.Around(d) {
		u := m.Vertex(m.Mate(at))
		if out[at] == color {
			parent = u
		}
		if out[m.Mate(at)] == color {
			children = append(children, u)
		}
	}
	if got := w.Parent(v, color); got != parent {
		t.Fatalf("Parent(%d, %d) of %v, %v: %d, want %d", v, color, m.List(), out, got, parent)
	}
	if got := w.Children(v, color); !slices.Equal(got, children) {
		t.Fatalf("Children(%d, %d) of %v, %v: %v, want %v", v, color, m.List(), out, got, children)
	}
	path := w.Path(v, color)
	if len(path) == 0 || path[0] != v || len(path) > 1 && path[1] != parent || (len(path) == 1) != (parent == none) {
		t.Fatalf("Path(%d, %d) of %v, %v: %v", v, color, m.List(), out, path)
	}
	if parent != none && !slices.Equal(path[1:], w.Path(parent, color)) {
		t.Fatalf("Path(%d, %d) of %v, %v: %v, but of %d %v", v, color, m.List(), out, path, parent, w.Path(parent, color))
	}
}

// checkNone asks w for darts, vertices and colors that there aren't.
func checkNone(t *testing.T, w *wood.Wood, m *dart.Map) {
	t.Helper()
	n := m.Darts()
	for _, d := range []int{math.MinInt, -1, n, n + 1, math.MaxInt} {
		if w.Out(d) != none {
			t.Fatalf("Out(%d): %d", d, w.Out(d))
		}
	}
	ask := func(v, color int) {
		if w.Parent(v, color) != none || len(w.Children(v, color)) != 0 || len(w.Path(v, color)) != 0 {
			t.Fatalf("of %d, %d: %d, %v, %v", v, color, w.Parent(v, color), w.Children(v, color), w.Path(v, color))
		}
	}
	n = m.Vertices()
	for _, v := range []int{math.MinInt, -1, n, n + 1, math.MaxInt} {
		for _, color := range append(noColors, 0, 1, 2) {
			ask(v, color)
		}
	}
	for v := range n {
		for _, color := range noColors {
			ask(v, color)
		}
	}
}

// TestP15_1All asks of each way to color few vertices whether it is a wood:
// there are as many woods of all triangulations as of so many vertices there
// must be.
func TestP15_1All(t *testing.T) {
	for i, want := range []int{1, 1, 3, 14} {
		woods := 0
		for _, m := range samples.Triangulations(t, i+3) {
			drafts(m, func(out []int) {
				right := modelIsWood(m, out)
				w, e := wood.Make(m, out)
				if right != (e == api.OK) || right != (w != nil) || !right && e != api.ErrCanon {
					t.Fatalf("Make of %v, %d, %v: %v, want %v", m.List(), m.Root(), out, e, right)
				}
				if right {
					woods++
					checkWood(t, w, m, slices.Clone(out))
				}
			})
		}
		if woods != want {
			t.Errorf("%d woods of %d vertices, want %d", woods, i+3, want)
		}
	}
}

// colorings hands to use all ways to let the edges of m from the e-th on, but
// those between corners, go out at one end, or at none.
func colorings(m *dart.Map, e int, out []int, use func()) {
	if e == m.Edges() {
		use()
		return
	}
	d, c := 2*e, corners(m)
	colorings(m, e+1, out, use)
	if slices.Contains(c, m.Vertex(d)) && slices.Contains(c, m.Vertex(d+1)) {
		return
	}
	for _, end := range []int{d, d + 1} {
		for color := range 3 {
			out[end] = color
			colorings(m, e+1, out, use)
		}
		out[end] = none
	}
}

// TestP15_1Colorings asks also of ways in which not just three darts of each
// vertex go out: none of them is a wood.
func TestP15_1Colorings(t *testing.T) {
	for i, want := range []int{1, 1, 3} {
		woods := 0
		for _, m := range samples.Triangulations(t, i+3) {
			out := uncolored(m)
			colorings(m, 0, out, func() {
				w, e := wood.Make(m, out)
				if e == api.OK {
					woods++
				}
				if (w != nil) != (e == api.OK) || e == api.OK && !modelIsWood(m, out) || e != api.OK && e != api.ErrCanon {
					t.Fatalf("Make of %v, %d, %v: %v", m.List(), m.Root(), out, e)
				}
			})
		}
		if woods != want {
			t.Errorf("%d woods of %d vertices, want %d", woods, i+3, want)
		}
	}
}

// change answers out with something of it changed.
func change(r *rand.Rand, m *dart.Map, out []int) []int {
	out = slices.Clone(out)
	d, e := r.IntN(len(out)), r.IntN(len(out))
	switch r.IntN(4) {
	case 0:
		out[d] = r.IntN(4) - 1
	case 1:
		out[d], out[e] = out[e], out[d]
	case 2:
		out[d], out[m.Mate(d)] = out[m.Mate(d)], out[d]
	case 3:
		for i, color := range out {
			if color != none {
				out[i] = (color + 1) % 3
			}
		}
	}
	return out
}

func TestP15_1Changed(t *testing.T) {
	r := rand.New(rand.NewPCG(101, 102))
	for _, n := range []int{4, 5, 6, 7, 9, 14, 30} {
		for range 20 {
			m := samples.Triangulation(t, r.IntN, n)
			out := modelOut(m)
			for range 60 {
				other := change(r, m, out)
				right := modelIsWood(m, other)
				w, e := wood.Make(m, other)
				if right != (e == api.OK) || right != (w != nil) || !right && e != api.ErrCanon {
					t.Fatalf("Make of %v, %d, %v: %v, want %v", m.List(), m.Root(), other, e, right)
				}
				if right {
					checkWood(t, w, m, other)
				}
			}
		}
	}
}

// TestP15_1Known names what breaks the wood of a triangle with one vertex in
// it, 3, and with another one, 4, within the triangle of 0, 1 and 3.
func TestP15_1Known(t *testing.T) {
	faces := [][]int{{0, 1, 2}, {1, 0, 4}, {4, 0, 3}, {1, 4, 3}, {0, 2, 3}, {2, 1, 3}}
	m, darts := samples.Faced(t, faces...), samples.Darts(faces)
	// By the corners 0, 1 and 2: 3 goes to all of them, 4 to 0, 1 and 3.
	right := map[[2]int]int{{3, 2}: 0, {3, 0}: 1, {3, 1}: 2, {4, 3}: 0, {4, 0}: 1, {4, 1}: 2}
	outOf := func(changes map[[2]int]int) []int {
		out := uncolored(m)
		for ends, color := range right {
			out[darts[ends]] = color
		}
		for ends, color := range changes {
			out[darts[ends]] = color
		}
		return out
	}
	checkWood(t, wooded(t, m, outOf(nil)), m, modelOut(m))
	for name, changes := range map[string]map[[2]int]int{
		"no edge goes out":                     {{3, 2}: none, {3, 0}: none, {3, 1}: none, {4, 3}: none, {4, 0}: none, {4, 1}: none},
		"one edge has no color":                {{4, 3}: none},
		"one edge goes out at both ends":       {{3, 4}: 0},
		"an edge between corners has a color":  {{0, 1}: 1},
		"another one":                          {{2, 0}: 1},
		"an edge comes out of a corner":        {{3, 2}: none, {2, 3}: 0},
		"a corner has another color":           {{4, 0}: 2, {4, 1}: 1},
		"all at one vertex have other colors":  {{3, 2}: 1, {3, 0}: 2, {3, 1}: 0},
		"all at another one have other colors": {{4, 3}: 1, {4, 0}: 2, {4, 1}: 0},
		"one color goes out twice":             {{4, 3}: 1},
		"an edge goes the other way":           {{4, 3}: none, {3, 4}: 0},
		"one comes in where another must":      {{4, 3}: 1, {4, 0}: 0},
	} {
		if w, e := wood.Make(m, outOf(changes)); w != nil || e != api.ErrCanon {
			t.Errorf("%s: %v", name, e)
		}
	}
}

// checkOf holds Of of m against the model.
func checkOf(t *testing.T, m *dart.Map) {
	t.Helper()
	w, e := wood.Of(m)
	if e != api.OK || w == nil {
		t.Fatalf("Of %v, %d: %v", m.List(), m.Root(), e)
	}
	out := modelOut(m)
	if !modelIsWood(m, out) {
		t.Fatalf("of %v, %d: the model %v is no wood", m.List(), m.Root(), out)
	}
	checkWood(t, w, m, out)
	checkWood(t, wooded(t, m, w.List()), m, out)
}

func TestP15_2AllSmall(t *testing.T) {
	r := rand.New(rand.NewPCG(103, 104))
	for i, want := range []int{1, 1, 3, 13, 68} {
		all := samples.Triangulations(t, i+3)
		if len(all) != want {
			t.Errorf("%d triangulations of %d vertices, want %d", len(all), i+3, want)
		}
		for _, m := range all {
			checkOf(t, m)
			checkOf(t, samples.Renamed(t, r.IntN, m))
		}
	}
}

func TestP15_2Random(t *testing.T) {
	r := rand.New(rand.NewPCG(105, 106))
	for _, n := range []int{8, 10, 15, 25, 40} {
		for range 8 {
			checkOf(t, samples.Triangulation(t, r.IntN, n))
		}
	}
}

// TestP15_2Known names the wood of an octahedron, gone through by hand, whose
// corners are 0, 1 and 4.
func TestP15_2Known(t *testing.T) {
	m, darts := samples.Faced(t, samples.Wheel(6)...), samples.Darts(samples.Wheel(6))
	w, e := wood.Of(m)
	if e != api.OK {
		t.Fatal(e)
	}
	want := uncolored(m)
	// As 4 goes, 3 and 2 come on the border; as 3 goes, 5; then 5 has an edge
	// to 1, so that 2 goes, and nothing comes; then 5.
	for ends, color := range map[[2]int]int{
		{3, 4}: 0, {2, 4}: 0, {3, 0}: 1, {3, 2}: 2, {5, 3}: 0, {2, 5}: 1, {2, 1}: 2, {5, 0}: 1, {5, 1}: 2,
	} {
		want[darts[ends]] = color
	}
	checkWood(t, w, m, want)
}

func TestP15_2Errors(t *testing.T) {
	for name, m := range samples.NoTriangulations(t) {
		if w, e := wood.Of(m); w != nil || e != api.ErrDomain {
			t.Errorf("Of %s: %v", name, e)
		}
		for _, out := range [][]int{nil, {none}, {7}, uncolored(m)} {
			if w, e := wood.Make(m, out); w != nil || e != api.ErrDomain {
				t.Errorf("Make of %s, %v: %v", name, out, e)
			}
		}
	}
	if w, e := wood.Of(nil); w != nil || e != api.ErrNone {
		t.Error(e)
	}
	for _, out := range [][]int{nil, {none}, {7}} {
		if w, e := wood.Make(nil, out); w != nil || e != api.ErrNone {
			t.Error(out, e)
		}
	}
}

func TestP15_2Range(t *testing.T) {
	for _, m := range []*dart.Map{samples.Triangle(t), samples.Faced(t, samples.Wheel(6)...)} {
		right := modelOut(m)
		wooded(t, m, right)
		for i := range right {
			for _, x := range []int{math.MinInt, -2, 3, 4, math.MaxInt} {
				out := slices.Clone(right)
				out[i] = x
				if w, e := wood.Make(m, out); w != nil || e != api.ErrRange {
					t.Errorf("Make of %v: %v", out, e)
				}
			}
			if w, e := wood.Make(m, right[:i]); w != nil || e != api.ErrRange {
				t.Errorf("Make of %v: %v", right[:i], e)
			}
		}
		if w, e := wood.Make(m, append(slices.Clone(right), none)); w != nil || e != api.ErrRange {
			t.Errorf("Make of one more than %v: %v", right, e)
		}
	}
}

// TestP15_NewMemory writes over what was handed in, and what was answered.
func TestP15_NewMemory(t *testing.T) {
	m := samples.Faced(t, samples.Wheel(6)...)
	want := modelOut(m)
	out := slices.Clone(want)
	w := wooded(t, m, out)
	if !slices.Equal(out, want) {
		t.Fatal(out)
	}
	for range 2 {
		clear(out)
		for v := range m.Vertices() {
			for color := range 3 {
				clear(w.Children(v, color))
				clear(w.Path(v, color))
			}
		}
		clear(w.List())
		checkWood(t, w, m, want)
	}
}

// TestP15_3AtOnce lets several goroutines ask.
func TestP15_3AtOnce(t *testing.T) {
	m := samples.Triangulation(t, rand.New(rand.NewPCG(107, 108)).IntN, 60)
	w, e := wood.Of(m)
	if e != api.OK {
		t.Fatal(e)
	}
	var all sync.WaitGroup
	wrong := make([]int, 8)
	for k := range wrong {
		all.Go(func() {
			for v := range m.Vertices() {
				for color := range 3 {
					path := w.Path(v, color)
					if up := w.Parent(v, color); up != none && (path[1] != up || !slices.Contains(w.Children(up, color), v)) {
						wrong[k]++
					}
				}
			}
		})
	}
	all.Wait()
	if slices.Max(wrong) > 0 {
		t.Fatal(wrong)
	}
}

func TestP15_3Nil(t *testing.T) {
	var w *wood.Wood
	if w.Map() != nil || len(w.List()) != 0 {
		t.Error(w.Map(), w.List())
	}
	for _, i := range []int{math.MinInt, -1, 0, 1, 2, math.MaxInt} {
		if w.Out(i) != none || w.Parent(i, i) != none || len(w.Children(i, i)) != 0 || len(w.Path(i, i)) != 0 {
			t.Error(i, w.Out(i), w.Parent(i, i), w.Children(i, i), w.Path(i, i))
		}
	}
}

// checkShallow holds of a large wood that all edges of each vertex go out
// where they must, and that its paths end.
func checkShallow(t *testing.T, m *dart.Map) {
	t.Helper()
	w, e := wood.Of(m)
	if e != api.OK {
		t.Fatal(e)
	}
	out := w.List()
	if !slices.Equal(wooded(t, m, out).List(), out) {
		t.Fatal("Make of List isn't it")
	}
	order, _ := shell.Order(m)
	places := make([]int, len(order))
	for i, v := range order {
		places[v] = i
	}
	for _, v := range order[2 : len(order)-1] {
		// What goes out with color 0 went later, the others are left.
		if places[w.Parent(v, 0)] < places[v] || places[w.Parent(v, 1)] > places[v] || places[w.Parent(v, 2)] > places[v] {
			t.Fatal(v)
		}
	}
	for _, v := range []int{order[2], order[len(order)/2], order[len(order)-2]} {
		for color, end := range []int{order[len(order)-1], order[0], order[1]} {
			if path := w.Path(v, color); path[len(path)-1] != end {
				t.Fatal(v, color, len(path))
			}
		}
	}
	slices.Reverse(out)
	if w, e := wood.Make(m, out); w != nil || e != api.ErrCanon {
		t.Fatal(e)
	}
}

// TestP15_Large goes through triangulations that are as large as can be.
func TestP15_Large(t *testing.T) {
	n := (api.MaxEdges + 6) / 3
	r := rand.New(rand.NewPCG(109, 110))
	for _, faces := range [][][]int{
		samples.Wheel(n), samples.Stacked(n, r.IntN),
		samples.Stacked(n, func(int) int { return 0 }), samples.Stacked(n, func(k int) int { return k - 1 }),
	} {
		m := samples.Faced(t, faces...)
		checkShallow(t, m)
		checkShallow(t, samples.Rooted(t, m, m.Darts()-1))
	}
}

func TestExamples(t *testing.T) {
	m := samples.Triangle(t)
	for d := range m.Darts() {
		m := samples.Rooted(t, m, d)
		w, e := wood.Of(m)
		if e != api.OK {
			t.Fatal(e)
		}
		checkWood(t, w, m, uncolored(m))
		checkWood(t, wooded(t, m, uncolored(m)), m, uncolored(m))
	}
}

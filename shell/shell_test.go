package shell_test

import (
	"math"
	"math/rand/v2"
	"slices"
	"testing"

	"parquetry/api"
	"parquetry/dart"
	"parquetry/samples"
	"parquetry/shell"
)

// called answers what the map m of these faces calls some of their vertices.
func called(m *dart.Map, faces [][]int, l ...int) []int {
	names := map[int]int{}
	for ends, d := range samples.Darts(faces) {
		names[ends[0]] = m.Vertex(d)
	}
	var all []int
	for _, v := range l {
		all = append(all, names[v])
	}
	return all
}

// small answers all triangulations of up to n vertices, each also by other
// names.
func small(t *testing.T, n int) []*dart.Map {
	t.Helper()
	r := rand.New(rand.NewPCG(81, 82))
	var all []*dart.Map
	for k := 3; k <= n; k++ {
		for _, m := range samples.Triangulations(t, k) {
			all = append(all, m, samples.Renamed(t, r.IntN, m))
		}
	}
	return all
}

// next answers the vertices around v, by Sigma, from the vertex from on.
func next(m *dart.Map, v, from int) []int {
	for d := range m.Darts() {
		if m.Vertex(d) == v && (from < 0 || m.Vertex(m.Mate(d)) == from) {
			var l []int
			for _, at := range m.Around(d) {
				l = append(l, m.Vertex(m.Mate(at)))
			}
			return l
		}
	}
	return nil
}

// modelCorners answers the root's vertex, its Mate's, and the third one of the
// root's face.
func modelCorners(m *dart.Map) []int {
	l := []int{m.Vertex(m.Root()), m.Vertex(m.Mate(m.Root()))}
	for _, d := range m.Border(m.Root()) {
		if v := m.Vertex(d); !slices.Contains(l, v) {
			l = append(l, v)
		}
	}
	return l
}

// peeled answers an order of m, that is peeled away: of those on the border
// that may go pick tells which one goes.
func peeled(m *dart.Map, pick func(free []int) int) []int {
	c := modelCorners(m)
	border := []int{c[0], c[2], c[1]}
	var gone []int
	for len(border) > 2 {
		var free []int
		for i := 1; i < len(border)-1; i++ {
			if modelFree(m, border, i) {
				free = append(free, i)
			}
		}
		i := pick(free)
		v := border[i]
		var come []int
		for _, u := range next(m, v, border[i-1]) {
			if !slices.Contains(border, u) && !slices.Contains(gone, u) {
				come = append(come, u)
			}
		}
		border = slices.Concat(border[:i], come, border[i+1:])
		gone = append(gone, v)
	}
	gone = append(gone, c[1], c[0])
	slices.Reverse(gone)
	return gone
}

// modelFree tells whether of the border's vertices the i-th one has an edge to
// those beside it alone.
func modelFree(m *dart.Map, border []int, i int) bool {
	for j, u := range border {
		joined := slices.Contains(next(m, border[i], -1), u)
		if joined != (j == i-1 || j == i+1) {
			return false
		}
	}
	return true
}

// first is the one that goes of those that may.
func first(free []int) int { return free[0] }

// rightModel tells whether l is a shelling order of m, word by word.
func rightModel(m *dart.Map, l []int) bool {
	sorted := slices.Sorted(slices.Values(l))
	if len(l) != m.Vertices() {
		return false
	}
	for i, v := range sorted {
		if v != i {
			return false
		}
	}
	c := modelCorners(m)
	if l[0] != c[0] || l[1] != c[1] || l[len(l)-1] != c[2] {
		return false
	}
	for i := 2; i < len(l); i++ {
		near := next(m, l[i], -1)
		ahead := func(u int) bool { return slices.Index(l, u) < i }
		n := 0
		for _, u := range near {
			if ahead(u) {
				n++
			}
		}
		if n < 2 || i < len(l)-1 && n == len(near) || !inOneRun(near, n, ahead) {
			return false
		}
	}
	return true
}

// inOneRun tells whether, from some place on, n of a ring are ahead.
func inOneRun(ring []int, n int, ahead func(u int) bool) bool {
	for from := range ring {
		run := slices.Concat(ring[from:], ring[:from])[:n]
		if !slices.ContainsFunc(run, func(u int) bool { return !ahead(u) }) {
			return true
		}
	}
	return false
}

// check holds Corners, Order and Right of the triangulation m against their
// models.
func check(t *testing.T, m *dart.Map) {
	t.Helper()
	sigma := m.List()
	if got, e := shell.Corners(m); e != api.OK || !slices.Equal(got, modelCorners(m)) {
		t.Fatalf("Corners of %v, %d: %v, %v, want %v", sigma, m.Root(), got, e, modelCorners(m))
	}
	want := peeled(m, first)
	got, e := shell.Order(m)
	if e != api.OK || !slices.Equal(got, want) {
		t.Fatalf("Order of %v, %d: %v, %v, want %v", sigma, m.Root(), got, e, want)
	}
	if !shell.Right(m, got) || !slices.Equal(got, want) || !slices.Equal(m.List(), sigma) {
		t.Fatalf("of %v, %d: the order %v isn't right", sigma, m.Root(), got)
	}
}

// TestTriangulations holds how many maps the other tests go through against
// how many rooted triangulations there are.
func TestTriangulations(t *testing.T) {
	for i, want := range []int{1, 1, 3, 13, 68} {
		if n := len(samples.Triangulations(t, i+3)); n != want {
			t.Errorf("%d triangulations of %d vertices, want %d", n, i+3, want)
		}
	}
}

func TestP14_AllSmall(t *testing.T) {
	for _, m := range small(t, 8) {
		check(t, m)
	}
}

func TestP14_Random(t *testing.T) {
	r := rand.New(rand.NewPCG(83, 84))
	for _, n := range []int{9, 12, 20, 40} {
		for range 10 {
			check(t, samples.Triangulation(t, r.IntN, n))
		}
	}
}

// TestP14_3All asks of each order of few vertices whether it is right.
func TestP14_3All(t *testing.T) {
	for _, m := range small(t, 6) {
		rights := 0
		for _, l := range samples.Perms(m.Vertices()) {
			want := rightModel(m, l)
			if shell.Right(m, l) != want {
				t.Fatalf("Right of %v, %d, %v: %v", m.List(), m.Root(), l, !want)
			}
			if want {
				rights++
			}
		}
		if rights == 0 {
			t.Fatalf("%v, %d: no order is right", m.List(), m.Root())
		}
	}
}

// TestP14_3Others asks for orders that are right, though another vertex goes
// than the first that may, and for such as are right no more.
func TestP14_3Others(t *testing.T) {
	r := rand.New(rand.NewPCG(85, 86))
	others := 0
	for _, n := range []int{7, 10, 15, 25} {
		for range 10 {
			m := samples.Triangulation(t, r.IntN, n)
			l := peeled(m, func(free []int) int { return free[r.IntN(len(free))] })
			if !shell.Right(m, l) {
				t.Fatalf("of %v, %d: %v isn't right", m.List(), m.Root(), l)
			}
			if order, _ := shell.Order(m); !slices.Equal(order, l) {
				others++
			}
			for range 20 {
				turned := slices.Clone(l)
				i, j := r.IntN(n), r.IntN(n)
				turned[i], turned[j] = turned[j], turned[i]
				if want := rightModel(m, turned); shell.Right(m, turned) != want {
					t.Fatalf("Right of %v, %d, %v: %v", m.List(), m.Root(), turned, !want)
				}
			}
		}
	}
	if others == 0 {
		t.Fatal("no other order than Order's")
	}
}

// vertices answers what a map calls the vertices at which these darts are.
func vertices(m *dart.Map, darts ...int) []int {
	var l []int
	for _, d := range darts {
		l = append(l, m.Vertex(d))
	}
	return l
}

// TestP14_Known names corners and orders that were gone through by hand.
func TestP14_Known(t *testing.T) {
	triangle := samples.Turned(t, 0, 0, []int{0, 5}, []int{1, 2}, []int{3, 4})
	// Within the triangle of 0, 2 and 4 the edges from 6, 8 and 10 on come
	// together.
	four := samples.Turned(t, 0, 0, []int{0, 6, 5}, []int{2, 8, 1}, []int{4, 10, 3}, []int{7, 9, 11})
	// The same, with the edges 6 to 8 in the one of its triangles that 0 is of.
	five := samples.Turned(t, 0, 0, []int{0, 12, 6, 5}, []int{2, 8, 14, 1}, []int{4, 10, 3}, []int{7, 16, 9, 11}, []int{13, 15, 17})
	eight := samples.Faced(t, samples.Wheel(6)...)
	for _, x := range []struct {
		name    string
		m       *dart.Map
		corners []int
		order   []int
	}{
		{"a triangle", triangle, []int{0, 1, 2}, []int{0, 1, 2}},
		{"a triangle, from outside", samples.Rooted(t, triangle, 3), []int{2, 1, 0}, []int{2, 1, 0}},
		{"a tetrahedron", four, vertices(four, 0, 1, 4), vertices(four, 0, 1, 7, 4)},
		{"a tetrahedron, from within", samples.Rooted(t, four, 7), vertices(four, 7, 6, 4), vertices(four, 7, 6, 2, 4)},
		{"five vertices", five, vertices(five, 0, 1, 4), vertices(five, 0, 1, 13, 7, 4)},
		// Behind 4 two may go, 3 and 2, in this order on the border; then 5
		// may not, for its edge with 1.
		{"an octahedron", eight, called(eight, samples.Wheel(6), 0, 1, 4), called(eight, samples.Wheel(6), 0, 1, 5, 2, 3, 4)},
	} {
		if got, e := shell.Corners(x.m); e != api.OK || !slices.Equal(got, x.corners) {
			t.Errorf("%s: Corners %v, %v, want %v", x.name, got, e, x.corners)
		}
		if got, e := shell.Order(x.m); e != api.OK || !slices.Equal(got, x.order) {
			t.Errorf("%s: Order %v, %v, want %v", x.name, got, e, x.order)
		}
	}
}

func TestP14_Wrong(t *testing.T) {
	for name, m := range samples.NoTriangulations(t) {
		if l, e := shell.Corners(m); len(l) != 0 || e != api.ErrDomain {
			t.Errorf("%s: Corners %v, %v", name, l, e)
		}
		if l, e := shell.Order(m); len(l) != 0 || e != api.ErrDomain {
			t.Errorf("%s: Order %v, %v", name, l, e)
		}
		for _, l := range [][]int{nil, {}, {0}, {0, 1}, {0, 1, 2}, {0, 1, 2, 3}, {0, 1, 2, 3, 4, 5, 6}} {
			if shell.Right(m, l) {
				t.Errorf("%s: Right of %v", name, l)
			}
		}
	}
	if l, e := shell.Corners(nil); len(l) != 0 || e != api.ErrNone {
		t.Error(l, e)
	}
	if l, e := shell.Order(nil); len(l) != 0 || e != api.ErrNone {
		t.Error(l, e)
	}
	if shell.Right(nil, nil) || shell.Right(nil, []int{0, 1, 2}) {
		t.Error("Right of nil")
	}
}

// TestP14_3Lists asks for lists that are not each vertex once.
func TestP14_3Lists(t *testing.T) {
	for _, m := range []*dart.Map{samples.Triangle(t), samples.Faced(t, samples.Wheel(6)...)} {
		right, e := shell.Order(m)
		if e != api.OK || !shell.Right(m, right) {
			t.Fatal(right, e)
		}
		n := len(right)
		for i := range right {
			for _, v := range []int{math.MinInt, -1, n, n + 1, math.MaxInt, right[(i+1)%n]} {
				l := slices.Clone(right)
				l[i] = v
				if shell.Right(m, l) {
					t.Errorf("Right of %v", l)
				}
				if shell.Right(m, slices.Insert(slices.Clone(right), i, v)) {
					t.Errorf("Right of %v and %d at %d", right, v, i)
				}
			}
			if shell.Right(m, right[:i]) || shell.Right(m, slices.Delete(slices.Clone(right), i, i+1)) {
				t.Errorf("Right of less than %v", right)
			}
		}
		if shell.Right(m, nil) || shell.Right(m, append(slices.Clone(right), right...)) || shell.Right(m, append(slices.Clone(right), n)) {
			t.Errorf("Right of nothing, or of more than %v", right)
		}
	}
}

// nested answers the faces of a triangulation with the root's corners 0, 1 and
// 7; the edges of 3, 2, 4 and 6 are a round, that 5 is within.
func nested() [][]int {
	return [][]int{
		{0, 1, 7}, {1, 0, 2}, {2, 0, 3}, {1, 2, 4}, {2, 3, 5}, {4, 2, 5},
		{5, 3, 6}, {4, 5, 6}, {3, 0, 7}, {6, 3, 7}, {4, 6, 7}, {1, 4, 7},
	}
}

// TestP14_3Broken names orders that are right, and what breaks others.
func TestP14_3Broken(t *testing.T) {
	for _, x := range []struct {
		name  string
		faces [][]int
		l     []int
		want  bool
	}{
		{"right", samples.Wheel(6), []int{0, 1, 5, 3, 2, 4}, true},
		{"right, the other way around", samples.Wheel(6), []int{0, 1, 5, 2, 3, 4}, true},
		{"the first two turned", samples.Wheel(6), []int{1, 0, 5, 3, 2, 4}, false},
		{"the last is not the third corner", samples.Wheel(6), []int{0, 1, 5, 3, 4, 2}, false},
		{"the second is another", samples.Wheel(6), []int{0, 5, 1, 3, 2, 4}, false},
		{"one has but one ahead of it", samples.Wheel(6), []int{0, 1, 2, 5, 3, 4}, false},
		{"one has none ahead of it", nested(), []int{0, 1, 6, 2, 3, 4, 5, 7}, false},
		{"right, with a round", nested(), []int{0, 1, 2, 3, 4, 5, 6, 7}, true},
		{"one has those ahead of it in two runs, and one has none behind it", nested(), []int{0, 1, 2, 3, 4, 6, 5, 7}, false},
	} {
		m := samples.Faced(t, x.faces...)
		l := called(m, x.faces, x.l...)
		if shell.Right(m, l) != x.want || rightModel(m, l) != x.want {
			t.Errorf("%s: %v: %v, by the model %v", x.name, x.l, shell.Right(m, l), rightModel(m, l))
		}
	}
}

func TestP14_NewMemory(t *testing.T) {
	m := samples.Faced(t, samples.Wheel(6)...)
	want := peeled(m, first)
	for range 2 {
		corners, _ := shell.Corners(m)
		order, _ := shell.Order(m)
		if !slices.Equal(order, want) || !slices.Equal(corners, modelCorners(m)) {
			t.Fatal(corners, order)
		}
		shell.Right(m, order)
		if !slices.Equal(order, want) {
			t.Fatal(order)
		}
		clear(corners)
		clear(order)
	}
}

// TestP14_Large goes through triangulations that are as large as can be: all
// around two vertices, each within the last one's, and at random.
func TestP14_Large(t *testing.T) {
	n := (api.MaxEdges + 6) / 3
	r := rand.New(rand.NewPCG(87, 88))
	for i, faces := range [][][]int{
		samples.Wheel(n), samples.Stacked(n, r.IntN),
		samples.Stacked(n, func(int) int { return 0 }), samples.Stacked(n, func(k int) int { return k - 1 }), samples.Stacked(n, func(k int) int { return k - 2 }),
	} {
		m := samples.Faced(t, faces...)
		for _, d := range []int{0, 1, 2, m.Darts() - 1, m.Darts() / 2} {
			m := samples.Rooted(t, m, d)
			l, e := shell.Order(m)
			if e != api.OK || !shell.Right(m, l) {
				t.Fatal(i, d, len(l), e)
			}
			turned := slices.Clone(l)
			turned[n-1], turned[n-2] = l[n-2], l[n-1]
			if shell.Right(m, turned) || shell.Right(m, l[1:]) {
				t.Fatal(i, d)
			}
		}
	}
}

func TestExamples(t *testing.T) {
	m := samples.Turned(t, 0, 0, []int{0, 5}, []int{1, 2}, []int{3, 4})
	for d := range m.Darts() {
		m := samples.Rooted(t, m, d)
		order, e := shell.Order(m)
		if corners, fault := shell.Corners(m); e != api.OK || fault != api.OK || !slices.Equal(order, corners) || order[0] != m.Vertex(d) || order[1] != m.Vertex(m.Mate(d)) {
			t.Fatal(corners, order)
		}
	}
}

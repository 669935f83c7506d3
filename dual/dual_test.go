package dual_test

import (
	"math"
	"math/rand/v2"
	"slices"
	"testing"

	"parquetry/api"
	"parquetry/dart"
	"parquetry/dual"
	"parquetry/perm"
	"parquetry/samples"
)

// maps answers all of up to six darts, and some of more, each with some root.
func maps(t *testing.T) []*dart.Map {
	all := []*dart.Map{samples.Map(t, nil, -1, 0), samples.Map(t, nil, -1, 4)}
	for n := 2; n <= 6; n += 2 {
		for i, sigma := range samples.Perms(n) {
			all = append(all, samples.Map(t, sigma, i%n, i%3))
		}
	}
	r := rand.New(rand.NewPCG(51, 52))
	for _, n := range []int{8, 10, 30, 100} {
		for range 5 {
			all = append(all, samples.Map(t, r.Perm(n), r.IntN(n), r.IntN(4)))
		}
	}
	return all
}

func TestP10_1Dual(t *testing.T) {
	for _, m := range maps(t) {
		sigma := m.List()
		var phi []int
		for d := range sigma {
			phi = append(phi, sigma[samples.Mate(d)])
		}
		got := dual.Dual(m)
		if !dart.Same(got, samples.Map(t, phi, m.Root(), m.Lone())) {
			t.Fatalf("Dual of %v: %v, %d, %d", sigma, got.List(), got.Root(), got.Lone())
		}
		if got.Borders() != m.Vertices()-m.Lone() || got.Vertices() != m.Borders()+m.Lone() || !dart.Same(dual.Dual(got), m) {
			t.Fatalf("Dual of Dual of %v", sigma)
		}
		if !slices.Equal(m.List(), sigma) {
			t.Fatalf("Dual changed %v", sigma)
		}
	}
}

func TestP10_1Mirror(t *testing.T) {
	for _, m := range maps(t) {
		sigma := m.List()
		back := make([]int, len(sigma))
		for d, next := range sigma {
			back[next] = d
		}
		got := dual.Mirror(m)
		if !dart.Same(got, samples.Map(t, back, m.Root(), m.Lone())) || !dart.Same(dual.Mirror(got), m) {
			t.Fatalf("Mirror of %v: %v, %d, %d", sigma, got.List(), got.Root(), got.Lone())
		}
	}
}

// checkRelabel holds Relabel against what the darts are called.
func checkRelabel(t *testing.T, m *dart.Map, l []int) {
	t.Helper()
	p := samples.Perm(t, l)
	got, e := dual.Relabel(m, p)
	if e != api.OK || got.Root() != l[m.Root()] || got.Lone() != m.Lone() || got.Darts() != m.Darts() {
		t.Fatalf("Relabel of %v by %v: %v", m.List(), l, e)
	}
	for d, name := range l {
		if got.Sigma(name) != l[m.Sigma(d)] || got.Mate(name) != l[m.Mate(d)] || got.Phi(name) != l[m.Phi(d)] {
			t.Fatalf("Relabel of %v by %v: %v", m.List(), l, got.List())
		}
	}
	back, e := dual.Relabel(got, p.Inverse())
	if e != api.OK || !dart.Same(back, m) {
		t.Fatalf("Relabel of %v by %v, and back: %v", m.List(), l, e)
	}
}

func TestP10_1Relabel(t *testing.T) {
	all := samples.AllNames(3)
	for i, sigma := range samples.Perms(6) {
		m := samples.Map(t, sigma, i%6, i%2)
		checkRelabel(t, m, all[i%len(all)])
		checkRelabel(t, m, all[(i/7)%len(all)])
	}
	for _, l := range all {
		checkRelabel(t, samples.Turned(t, 4, 2, []int{0, 3, 1}, []int{2, 5, 4}), l)
	}
	bare := samples.Map(t, nil, -1, 2)
	if got, e := dual.Relabel(bare, perm.One(0)); e != api.OK || !dart.Same(got, bare) {
		t.Fatal(e)
	}
}

func TestP10_1RelabelErrors(t *testing.T) {
	m := samples.Turned(t, 0, 1, []int{0, 5}, []int{1, 2}, []int{3, 4})
	all := samples.AllNames(3)
	for _, l := range samples.Perms(6) {
		want := api.ErrPerm
		if slices.ContainsFunc(all, func(right []int) bool { return slices.Equal(l, right) }) {
			want = api.OK
		}
		if got, e := dual.Relabel(m, samples.Perm(t, l)); e != want || (got == nil) != (e != api.OK) {
			t.Fatalf("Relabel by %v: %v, want %v", l, e, want)
		}
	}
	for _, l := range [][]int{{}, {1, 2, 3, 0}, {1, 0, 3, 2}, {4, 3, 2, 1, 0}, {1, 0, 3, 2, 5, 4, 7, 6}, {7, 1, 2, 3, 4, 5, 6, 0}} {
		if got, e := dual.Relabel(m, samples.Perm(t, l)); got != nil || e != api.ErrRange {
			t.Fatalf("Relabel by %v: %v", l, e)
		}
	}
	if got, e := dual.Relabel(samples.Map(t, nil, -1, 1), perm.One(2)); got != nil || e != api.ErrRange {
		t.Fatal(e)
	}
}

// around answers the darts of each vertex, by the least ones.
func around(m *dart.Map) [][]int {
	var all [][]int
	for d := range m.Darts() {
		if l := m.Around(d); slices.Min(l) == d {
			all = append(all, l)
		}
	}
	return all
}

// modelCut answers m without e: the darts are struck out of their vertices.
func modelCut(t *testing.T, m *dart.Map, e int) *dart.Map {
	t.Helper()
	lone := m.Lone()
	var left [][]int
	for _, darts := range around(m) {
		darts = slices.DeleteFunc(darts, func(d int) bool { return d/2 == e })
		if len(darts) == 0 {
			lone++
			continue
		}
		left = append(left, renamed(darts, e))
	}
	return samples.Turned(t, modelRoot(m, e), lone, left...)
}

// modelShrink answers m with e's vertices as one: the other vertex's darts,
// from behind the other dart on, stand where the one dart stood.
func modelShrink(t *testing.T, m *dart.Map, e int) *dart.Map {
	t.Helper()
	lone := m.Lone()
	one := slices.Concat(m.Around(2*e + 1)[1:], m.Around(2 * e)[1:])
	var left [][]int
	for _, darts := range around(m) {
		if !slices.Contains(darts, 2*e) && !slices.Contains(darts, 2*e+1) {
			left = append(left, renamed(darts, e))
		}
	}
	if len(one) == 0 {
		lone++
	} else {
		left = append(left, renamed(one, e))
	}
	return samples.Turned(t, modelRoot(m, e), lone, left...)
}

// renamed answers darts by what they are called without e.
func renamed(darts []int, e int) []int {
	var l []int
	for _, d := range darts {
		if d > 2*e+1 {
			d -= 2
		}
		l = append(l, d)
	}
	return l
}

// modelRoot is the root of m without e.
func modelRoot(m *dart.Map, e int) int {
	if m.Edges() == 1 {
		return -1
	}
	l := m.Around(m.Root())
	// By Back: the root, then from the end on.
	slices.Reverse(l[1:])
	for _, d := range l {
		if d/2 != e {
			return renamed([]int{d}, e)[0]
		}
	}
	return 0
}

// isLoop tells whether both darts of e are at one vertex.
func isLoop(m *dart.Map, e int) bool { return m.Vertex(2*e) == m.Vertex(2*e+1) }

// checkEdge holds Cut and Shrink of the edge e against their models.
func checkEdge(t *testing.T, m *dart.Map, e int) {
	t.Helper()
	cut, fault := dual.Cut(m, e)
	if want := modelCut(t, m, e); fault != api.OK || !dart.Same(cut, want) {
		t.Fatalf("Cut of %v, %d, %d: %v, %d, %d, want %v, %d, %d", m.List(), m.Root(), e, cut.List(), cut.Root(), cut.Lone(), want.List(), want.Root(), want.Lone())
	}
	if cut.Vertices() != m.Vertices() {
		t.Fatalf("Cut of %v, %d: %d vertices", m.List(), e, cut.Vertices())
	}
	shrunk, fault := dual.Shrink(m, e)
	if isLoop(m, e) {
		if shrunk != nil || fault != api.ErrDomain {
			t.Fatalf("Shrink of %v, %d: %v", m.List(), e, fault)
		}
		return
	}
	if want := modelShrink(t, m, e); fault != api.OK || !dart.Same(shrunk, want) {
		t.Fatalf("Shrink of %v, %d, %d: %v, %d, %d, want %v, %d, %d", m.List(), m.Root(), e, shrunk.List(), shrunk.Root(), shrunk.Lone(), want.List(), want.Root(), want.Lone())
	}
	if shrunk.Vertices() != m.Vertices()-1 {
		t.Fatalf("Shrink of %v, %d: %d vertices", m.List(), e, shrunk.Vertices())
	}
	// What is shrunk is cut, seen from the faces.
	seen, fault := dual.Cut(dual.Dual(m), e)
	if fault != api.OK || !slices.Equal(dual.Dual(seen).List(), shrunk.List()) {
		t.Fatalf("Shrink of %v, %d: %v, by the Dual %v", m.List(), e, shrunk.List(), dual.Dual(seen).List())
	}
}

func TestP10_2AllSmall(t *testing.T) {
	for n := 2; n <= 6; n += 2 {
		for i, sigma := range samples.Perms(n) {
			for root := range n {
				m := samples.Map(t, sigma, root, i%3)
				for e := range n / 2 {
					checkEdge(t, m, e)
				}
				if !dart.Same(m, samples.Map(t, sigma, root, i%3)) {
					t.Fatalf("%v was changed", sigma)
				}
			}
		}
	}
}

func TestP10_2Random(t *testing.T) {
	for _, m := range maps(t) {
		for e := range m.Edges() {
			for _, d := range []int{m.Root(), 2 * e, 2*e + 1} {
				rooted, fault := m.Rooted(d)
				if fault != api.OK {
					t.Fatal(fault)
				}
				checkEdge(t, rooted, e)
			}
		}
	}
}

// TestP10_2Roots names what becomes of the root, case by case.
func TestP10_2Roots(t *testing.T) {
	for _, x := range []struct {
		name        string
		m           *dart.Map
		e           int
		cut, shrunk int
	}{
		{"it stays", samples.Turned(t, 1, 0, []int{0, 5}, []int{1, 2}, []int{3, 4}), 1, 1, 1},
		{"it stays, and is called lower", samples.Turned(t, 5, 0, []int{0, 5}, []int{1, 2}, []int{3, 4}), 1, 3, 3},
		{"it goes", samples.Turned(t, 0, 0, []int{0, 4, 2}, []int{1}, []int{3}, []int{5}), 0, 0, 0},
		{"it goes, the other way around", samples.Turned(t, 0, 0, []int{0, 2, 4}, []int{1}, []int{3}, []int{5}), 0, 2, 2},
		{"it goes, and no other dart is at its vertex", samples.Turned(t, 5, 0, []int{1, 2}, []int{0, 4}, []int{3}, []int{5}), 2, 0, 0},
		{"the odd one goes", samples.Turned(t, 3, 0, []int{0}, []int{1, 2}, []int{3, 4}, []int{5}), 1, 2, 2},
		{"a loop, with its other dart ahead", samples.Turned(t, 2, 0, []int{0, 4, 3, 2}, []int{1}, []int{5}), 1, 2, -1},
		{"a loop, alone at its vertex", samples.Turned(t, 3, 0, []int{0}, []int{1}, []int{2, 3}), 1, 0, -1},
		{"the last edge", samples.Turned(t, 1, 0, []int{0}, []int{1}), 0, -1, -1},
		{"the last edge, a loop", samples.Turned(t, 1, 0, []int{0, 1}), 0, -1, -1},
	} {
		if cut, e := dual.Cut(x.m, x.e); e != api.OK || cut.Root() != x.cut {
			t.Errorf("%s: Cut has the root %d, want %d", x.name, cut.Root(), x.cut)
		}
		if shrunk, e := dual.Shrink(x.m, x.e); shrunk.Root() != x.shrunk || (e == api.ErrDomain) != isLoop(x.m, x.e) {
			t.Errorf("%s: Shrink has the root %d, want %d, %v", x.name, shrunk.Root(), x.shrunk, e)
		}
	}
}

func TestP10_2NoEdge(t *testing.T) {
	for _, m := range maps(t) {
		n := m.Edges()
		for _, e := range []int{math.MinInt, -2, -1, n, n + 1, 2 * n, math.MaxInt/2 + 1, math.MaxInt} {
			if got, fault := dual.Cut(m, e); got != nil || fault != api.ErrRange {
				t.Fatalf("Cut of %v, %d: %v", m.List(), e, fault)
			}
			if got, fault := dual.Shrink(m, e); got != nil || fault != api.ErrRange {
				t.Fatalf("Shrink of %v, %d: %v", m.List(), e, fault)
			}
		}
	}
}

func TestP10_2Large(t *testing.T) {
	const most = api.MaxLone
	edge, loop := []int{0, 1}, []int{1, 0}
	leaf := []int{0, 2, 1, 3}
	for _, x := range []struct {
		name         string
		sigma        []int
		lone         int
		cut, shrink  api.Errno
		after, fewer int
	}{
		{"an edge", edge, most - 2, api.OK, api.OK, most, most - 1},
		{"an edge, and one too many cut", edge, most - 1, api.ErrLarge, api.OK, 0, most},
		{"an edge, and no room", edge, most, api.ErrLarge, api.ErrLarge, 0, 0},
		{"a loop", loop, most - 1, api.OK, api.ErrDomain, most, 0},
		{"a loop, and no room", loop, most, api.ErrLarge, api.ErrDomain, 0, 0},
		{"a leaf", leaf, most - 1, api.OK, api.OK, most, most - 1},
		{"a leaf, and no room", leaf, most, api.ErrLarge, api.OK, 0, most},
	} {
		m := samples.Map(t, x.sigma, 0, x.lone)
		if got, e := dual.Cut(m, 0); e != x.cut || (got == nil) != (e != api.OK) || got.Lone() != x.after {
			t.Errorf("%s: Cut %v, %d lone", x.name, e, got.Lone())
		}
		if got, e := dual.Shrink(m, 0); e != x.shrink || (got == nil) != (e != api.OK) || got.Lone() != x.fewer {
			t.Errorf("%s: Shrink %v, %d lone", x.name, e, got.Lone())
		}
		if got, e := dual.Cut(m, m.Edges()); got != nil || e != api.ErrRange {
			t.Errorf("%s: Cut of none %v", x.name, e)
		}
		if dual.Dual(m).Lone() != x.lone || dual.Mirror(m).Lone() != x.lone {
			t.Errorf("%s: Dual %d lone", x.name, dual.Dual(m).Lone())
		}
	}
}

func TestP10_LargeMaps(t *testing.T) {
	n := 2 * api.MaxEdges
	r := rand.New(rand.NewPCG(53, 54))
	fan := make([]int, n)
	for d := range fan {
		fan[d] = (d + 1) % n
	}
	for _, sigma := range [][]int{fan, r.Perm(n)} {
		m := samples.Map(t, sigma, n-1, api.MaxLone)
		if !dart.Same(dual.Dual(dual.Dual(m)), m) || !dart.Same(dual.Mirror(dual.Mirror(m)), m) {
			t.Fatal("not the same again")
		}
		turn := make([]int, n)
		for d := range turn {
			turn[d] = (d + 1) % n
		}
		got, e := dual.Relabel(m, samples.Perm(t, turn))
		if e != api.ErrPerm || got != nil {
			t.Fatal(e)
		}
		for d := range turn {
			turn[d] = n - 1 - d
		}
		got, e = dual.Relabel(m, samples.Perm(t, turn))
		if e != api.OK || got.Root() != 0 || got.Sigma(n-1) != n-1-sigma[0] {
			t.Fatal(e)
		}
		again, e := dual.Relabel(m, perm.One(n))
		if e != api.OK || !dart.Same(again, m) {
			t.Fatal(e)
		}
	}
	for _, e := range []int{0, n / 4, n/2 - 1} {
		m := samples.Map(t, fan, n-1, api.MaxLone)
		if got, fault := dual.Cut(m, e); fault != api.OK || got.Edges() != n/2-1 || got.Root() != n-3 || got.Vertices() != m.Vertices() {
			t.Fatal(e, fault)
		}
	}
}

func TestP10_Nil(t *testing.T) {
	if dual.Dual(nil) != nil || dual.Mirror(nil) != nil {
		t.Fatal("of nil something")
	}
	edge := samples.Turned(t, 0, 0, []int{0}, []int{1})
	for _, x := range []struct {
		m *dart.Map
		p *perm.Perm
	}{{nil, nil}, {nil, perm.One(0)}, {nil, perm.One(2)}, {edge, nil}, {samples.Map(t, nil, -1, 1), nil}} {
		if m, e := dual.Relabel(x.m, x.p); m != nil || e != api.ErrNone {
			t.Fatal(e)
		}
	}
	for _, e := range []int{math.MinInt, -1, 0, 1, math.MaxInt} {
		if m, fault := dual.Cut(nil, e); m != nil || fault != api.ErrNone {
			t.Fatal(e, fault)
		}
		if m, fault := dual.Shrink(nil, e); m != nil || fault != api.ErrNone {
			t.Fatal(e, fault)
		}
	}
}

func TestExamples(t *testing.T) {
	edge, loop := samples.Turned(t, 0, 0, []int{0}, []int{1}), samples.Turned(t, 0, 0, []int{0, 1})
	if !dart.Same(dual.Dual(edge), loop) || !dart.Same(dual.Dual(loop), edge) {
		t.Fatal(dual.Dual(edge).List())
	}
	if cut, e := dual.Cut(edge, 0); e != api.OK || !dart.Same(cut, samples.Map(t, nil, -1, 2)) {
		t.Fatal(e)
	}
	if one, e := dual.Shrink(edge, 0); e != api.OK || !dart.Same(one, samples.Map(t, nil, -1, 1)) {
		t.Fatal(e)
	}
}

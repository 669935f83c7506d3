package canon_test

import (
	"fmt"
	"math/rand/v2"
	"slices"
	"testing"

	"parquetry/api"
	"parquetry/canon"
	"parquetry/dart"
	"parquetry/euler"
	"parquetry/perm"
	"parquetry/samples"
	"parquetry/walk"
)

// modelNames answers the canonical name of each dart, by walks of all of m.
func modelNames(t *testing.T, m *dart.Map) []int {
	t.Helper()
	names := make([]int, m.Darts())
	edges := map[int]int{}
	for i := -1; i < m.Darts(); i++ {
		d := i
		if i == -1 {
			d = m.Root()
		}
		if _, ok := edges[d/2]; ok || d == -1 {
			continue
		}
		l, e := walk.Of(m, d)
		if e != api.OK {
			t.Fatalf("walk of %v from %d: %v", m.List(), d, e)
		}
		for _, s := range l {
			if _, ok := edges[s.Dart/2]; !ok {
				k := len(edges)
				edges[s.Dart/2] = k
				names[s.Dart], names[m.Mate(s.Dart)] = 2*k, 2*k+1
			}
		}
	}
	return names
}

// canonOf answers the canonical map of m, that there is.
func canonOf(t *testing.T, m *dart.Map) *dart.Map {
	t.Helper()
	named, p, e := canon.Canon(m)
	if e != api.OK || named == nil || p == nil {
		t.Fatalf("Canon of %v, %d, %d: %v", m.List(), m.Root(), m.Lone(), e)
	}
	return named
}

// check holds Canon and Is of m against what the names are.
func check(t *testing.T, m *dart.Map) {
	t.Helper()
	sigma, want := m.List(), modelNames(t, m)
	named, p, e := canon.Canon(m)
	if e != api.OK || p.Len() != m.Darts() || !slices.Equal(p.List(), want) {
		t.Fatalf("Canon of %v, %d: %v, %v, want %v", sigma, m.Root(), e, p.List(), want)
	}
	root := 0
	if len(sigma) == 0 {
		root = -1
	}
	if named.Root() != root || named.Lone() != m.Lone() || named.Darts() != m.Darts() {
		t.Fatalf("Canon of %v, %d: the root %d, %d lone", sigma, m.Root(), named.Root(), named.Lone())
	}
	for d, name := range want {
		if named.Sigma(name) != want[sigma[d]] || named.Mate(name) != want[d^1] {
			t.Fatalf("Canon of %v, %d: %v by %v", sigma, m.Root(), named.List(), want)
		}
	}
	again, q, e := canon.Canon(named)
	if e != api.OK || !dart.Same(again, named) || !perm.Same(q, perm.One(m.Darts())) || !canon.Is(named) {
		t.Fatalf("Canon of Canon of %v, %d: %v, %v", sigma, m.Root(), again.List(), q.List())
	}
	if canon.Is(m) != dart.Same(m, named) {
		t.Fatalf("Is of %v, %d: %v", sigma, m.Root(), canon.Is(m))
	}
	if !canon.Iso(m, named) || !canon.Iso(named, m) || !slices.Equal(m.List(), sigma) {
		t.Fatalf("%v, %d and its Canon %v", sigma, m.Root(), named.List())
	}
}

func TestP11_1AllSmall(t *testing.T) {
	for n := 0; n <= 6; n += 2 {
		for i, sigma := range samples.Perms(n) {
			for root := range n {
				check(t, samples.Map(t, sigma, root, i%3))
			}
		}
	}
	for _, lone := range []int{0, 1, 5} {
		check(t, samples.Map(t, nil, -1, lone))
	}
}

func TestP11_1Random(t *testing.T) {
	r := rand.New(rand.NewPCG(61, 62))
	for _, n := range []int{8, 10, 16, 50, 120} {
		for range 20 {
			for _, sigma := range [][]int{r.Perm(n), samples.Split(r.IntN, n)} {
				check(t, samples.Map(t, sigma, r.IntN(n), r.IntN(3)))
			}
		}
	}
}

// TestP11_1Known asks for names that were gone through by hand.
func TestP11_1Known(t *testing.T) {
	for _, x := range []struct {
		name  string
		m     *dart.Map
		names []int
		sigma []int
	}{
		{"a loop, from its odd dart", samples.Turned(t, 1, 0, []int{0, 1}), []int{1, 0}, []int{1, 0}},
		{"an edge", samples.Turned(t, 0, 2, []int{0}, []int{1}), []int{0, 1}, []int{0, 1}},
		{"two edges side by side", samples.Turned(t, 0, 0, []int{0, 2}, []int{1, 3}), []int{0, 1, 3, 2}, []int{3, 2, 1, 0}},
		{"a triangle", samples.Turned(t, 0, 0, []int{0, 5}, []int{1, 2}, []int{3, 4}), []int{0, 1, 2, 3, 4, 5}, []int{5, 2, 1, 4, 3, 0}},
		{"a triangle, from outside", samples.Turned(t, 5, 0, []int{0, 5}, []int{1, 2}, []int{3, 4}), []int{5, 4, 3, 2, 1, 0}, []int{5, 2, 1, 4, 3, 0}},
		{"a square with a chord", samples.Turned(t, 7, 0, []int{0, 7, 8}, []int{1, 2}, []int{3, 4, 9}, []int{5, 6}), []int{9, 8, 7, 6, 3, 2, 1, 0, 5, 4}, []int{5, 2, 1, 4, 6, 9, 3, 8, 7, 0}},
		{"the root's part ahead of the others", samples.Turned(t, 5, 1, []int{0}, []int{1, 2}, []int{3}, []int{4, 5}, []int{6, 7}), []int{2, 3, 4, 5, 1, 0, 6, 7}, []int{1, 0, 2, 4, 3, 5, 7, 6}},
		{"parts by their least darts, each from that one", samples.Turned(t, 4, 0, []int{4}, []int{5}, []int{6, 0, 3}, []int{7}, []int{1}, []int{2}), []int{2, 3, 5, 4, 0, 1, 6, 7}, []int{0, 1, 4, 3, 6, 5, 2, 7}},
	} {
		named, p, e := canon.Canon(x.m)
		if e != api.OK || !slices.Equal(p.List(), x.names) || !slices.Equal(named.List(), x.sigma) || named.Root() != 0 || named.Lone() != x.m.Lone() {
			t.Errorf("%s: %v, %v, want %v; %v, want %v", x.name, e, p.List(), x.names, named.List(), x.sigma)
		}
	}
}

// TestP11_1Counts holds how many canonical maps of one part there are against
// how many rooted maps: of all surfaces, and of the plane.
func TestP11_1Counts(t *testing.T) {
	for i, want := range [][2]int{{2, 2}, {10, 9}, {74, 54}, {706, 378}} {
		all, planar := map[string]int{}, map[string]int{}
		for _, sigma := range samples.Perms(2 * (i + 1)) {
			m := samples.Map(t, sigma, 0, 0)
			if !euler.Connected(m) {
				continue
			}
			key := fmt.Sprint(canonOf(t, m).List())
			all[key]++
			if euler.Planar(m) {
				planar[key]++
			}
		}
		if len(all) != want[0] || len(planar) != want[1] {
			t.Errorf("of %d edges: %d canonical maps, %d of them planar, want %v", i+1, len(all), len(planar), want)
		}
	}
}

func TestP11_1AnyNames(t *testing.T) {
	r := rand.New(rand.NewPCG(63, 64))
	for _, edges := range []int{1, 2, 3, 4, 10, 40} {
		for range 30 {
			m := samples.Map(t, r.Perm(2*edges), r.IntN(2*edges), 0)
			if !euler.Connected(m) {
				continue
			}
			other := samples.Relabelled(t, m, samples.Names(r.IntN, edges))
			if !dart.Same(canonOf(t, m), canonOf(t, other)) {
				t.Fatalf("Canon of %v, %d and of %v, %d", m.List(), m.Root(), other.List(), other.Root())
			}
		}
	}
}

// TestP11_1Large names what is as large as can be, in one part and in as many
// as can be.
func TestP11_1Large(t *testing.T) {
	n := 2 * api.MaxEdges
	r := rand.New(rand.NewPCG(65, 66))
	for i, sigma := range [][]int{
		samples.Path(n),
		samples.Each(n, func(d int) int { return (d + 1) % n }),
		samples.Each(n, func(d int) int { return d }),
		samples.Each(n, func(d int) int { return d ^ 1 }),
		r.Perm(n), samples.Split(r.IntN, n),
	} {
		m := samples.Map(t, sigma, n-1, api.MaxLone)
		named, p, e := canon.Canon(m)
		if e != api.OK || named.Root() != 0 || p.At(n-1) != 0 || p.At(n-2) != 1 || named.Lone() != api.MaxLone {
			t.Fatal(i, e)
		}
		for d, to := range sigma {
			if named.Sigma(p.At(d)) != p.At(to) {
				t.Fatal(i, d)
			}
		}
		if !canon.Is(named) || canon.Is(m) || !canon.Iso(m, named) {
			t.Fatal(i)
		}
	}
}

func TestP11_1NewMemory(t *testing.T) {
	m := samples.Turned(t, 5, 1, []int{0}, []int{1, 2}, []int{3}, []int{4, 5}, []int{6, 7})
	for range 2 {
		named, p, e := canon.Canon(m)
		if e != api.OK || !slices.Equal(p.List(), []int{2, 3, 4, 5, 1, 0, 6, 7}) || !slices.Equal(named.List(), []int{1, 0, 2, 4, 3, 5, 7, 6}) {
			t.Fatal(p.List(), named.List())
		}
		clear(p.List())
		clear(named.List())
	}
}

// isoModel tells whether some permutation takes mates to mates, a's Sigma to
// b's, and its root to b's.
func isoModel(a, b *dart.Map, all [][]int) bool {
	from, to := a.List(), b.List()
	return slices.ContainsFunc(all, func(l []int) bool {
		if l[a.Root()] != b.Root() {
			return false
		}
		for d, next := range from {
			if to[l[d]] != l[next] {
				return false
			}
		}
		return true
	})
}

// checkIso holds Iso of any two maps of one part against isoModel.
func checkIso(t *testing.T, maps []*dart.Map, edges int) {
	t.Helper()
	all := samples.AllNames(edges)
	for _, a := range maps {
		for _, b := range maps {
			if want := isoModel(a, b, all); canon.Iso(a, b) != want {
				t.Fatalf("Iso of %v, %d and %v, %d: %v", a.List(), a.Root(), b.List(), b.Root(), !want)
			}
		}
	}
}

func TestP11_2Iso(t *testing.T) {
	for n := 2; n <= 4; n += 2 {
		var maps []*dart.Map
		for _, sigma := range samples.Perms(n) {
			for root := range n {
				if m := samples.Map(t, sigma, root, 0); euler.Connected(m) {
					maps = append(maps, m)
				}
			}
		}
		checkIso(t, maps, n/2)
	}
	r := rand.New(rand.NewPCG(67, 68))
	all := samples.Perms(6)
	for range 5 {
		var maps []*dart.Map
		for len(maps) < 30 {
			m := samples.Map(t, all[r.IntN(len(all))], r.IntN(6), 0)
			if euler.Connected(m) {
				maps = append(maps, m, samples.Rooted(t, samples.Relabelled(t, m, samples.Names(r.IntN, 3)), r.IntN(6)))
			}
		}
		checkIso(t, maps, 3)
	}
}

func TestP11_2IsoOfAll(t *testing.T) {
	edgeLoop := samples.Turned(t, 0, 0, []int{0}, []int{1}, []int{2}, []int{3}, []int{4, 5})
	loopEdge := samples.Turned(t, 0, 0, []int{0}, []int{1}, []int{4}, []int{5}, []int{2, 3})
	bare, lone := samples.Map(t, nil, -1, 0), samples.Map(t, nil, -1, 1)
	for _, x := range []struct {
		name string
		a, b *dart.Map
		want bool
	}{
		{"nil and nil", nil, nil, true},
		{"nil and nothing", nil, bare, false},
		{"nil and a vertex", nil, lone, false},
		{"nil and an edge", nil, samples.Turned(t, 0, 0, []int{0}, []int{1}), false},
		{"nothing and nothing", bare, samples.Map(t, nil, -1, 0), true},
		{"nothing and a vertex", bare, lone, false},
		{"two lone vertices and two", samples.Map(t, nil, -1, 2), samples.Map(t, nil, -1, 2), true},
		{"an edge, from both ends", samples.Turned(t, 0, 0, []int{0}, []int{1}), samples.Turned(t, 1, 0, []int{0}, []int{1}), true},
		{"an edge, one with a lone vertex", samples.Turned(t, 0, 0, []int{0}, []int{1}), samples.Turned(t, 0, 1, []int{0}, []int{1}), false},
		{"an edge and a loop", samples.Turned(t, 0, 0, []int{0}, []int{1}), samples.Turned(t, 0, 0, []int{0, 1}), false},
		{"a path, from its end and from its middle", samples.Turned(t, 0, 0, []int{0}, []int{1, 2}, []int{3}), samples.Turned(t, 1, 0, []int{0}, []int{1, 2}, []int{3}), false},
		{"two parts, the other root", samples.Turned(t, 0, 0, []int{0}, []int{1}, []int{2, 3}), samples.Turned(t, 2, 0, []int{0}, []int{1}, []int{2, 3}), false},
		{"two parts, named the other way", samples.Turned(t, 0, 0, []int{0}, []int{1}, []int{2, 3}), samples.Turned(t, 3, 0, []int{2}, []int{3}, []int{0, 1}), true},
		{"parts in another order behind the root's", edgeLoop, loopEdge, false},
		{"parts in the same order behind the root's", edgeLoop, samples.Turned(t, 2, 0, []int{2}, []int{3}, []int{0}, []int{1}, []int{4, 5}), true},
	} {
		if canon.Iso(x.a, x.b) != x.want || canon.Iso(x.b, x.a) != x.want {
			t.Errorf("%s: Iso %v", x.name, !x.want)
		}
	}
}

func TestP11_2Is(t *testing.T) {
	for _, x := range []struct {
		name string
		m    *dart.Map
		want bool
	}{
		{"nil", nil, false},
		{"nothing", samples.Map(t, nil, -1, 0), true},
		{"lone vertices", samples.Map(t, nil, -1, 3), true},
		{"an edge", samples.Turned(t, 0, 0, []int{0}, []int{1}), true},
		{"an edge, from its odd dart", samples.Turned(t, 1, 0, []int{0}, []int{1}), false},
		{"two edges side by side", samples.Turned(t, 0, 0, []int{0, 2}, []int{1, 3}), false},
		{"two edges side by side, one turned", samples.Turned(t, 0, 0, []int{0, 3}, []int{1, 2}), true},
		{"the root's part behind another", samples.Turned(t, 2, 0, []int{0}, []int{1}, []int{2, 3}), false},
		{"another part not from its first dart", samples.Turned(t, 0, 0, []int{0}, []int{1}, []int{2, 5, 3, 4}), false},
		{"another part from its first dart", samples.Turned(t, 0, 0, []int{0}, []int{1}, []int{2, 4, 3, 5}), true},
	} {
		if canon.Is(x.m) != x.want {
			t.Errorf("%s: Is %v", x.name, !x.want)
		}
	}
	for n := 2; n <= 6; n += 2 {
		for i, sigma := range samples.Perms(n) {
			for root := range n {
				m := samples.Map(t, sigma, root, i%2)
				if canon.Is(m) != dart.Same(m, canonOf(t, m)) {
					t.Fatalf("Is of %v, %d: %v", sigma, root, canon.Is(m))
				}
			}
		}
	}
}

func TestP11_Nil(t *testing.T) {
	if m, p, e := canon.Canon(nil); m != nil || p != nil || e != api.ErrNone {
		t.Fatal(m, p, e)
	}
	if canon.Is(nil) || canon.Shape(nil) != 0 {
		t.Fatal(canon.Is(nil), canon.Shape(nil))
	}
}

func TestExamples(t *testing.T) {
	for _, x := range []struct {
		m    *dart.Map
		want int
	}{
		{samples.Turned(t, 0, 0, []int{0}, []int{1}), 2},
		{samples.Turned(t, 1, 0, []int{0, 1}), 2},
		{samples.Turned(t, 3, 0, []int{0, 5}, []int{1, 2}, []int{3, 4}), 6},
	} {
		if got := canon.Shape(x.m); got != x.want {
			t.Errorf("Shape of %v: %d, want %d", x.m.List(), got, x.want)
		}
	}
}

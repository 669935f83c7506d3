package canon_test

import (
	"fmt"
	"math/rand/v2"
	"slices"
	"testing"

	"parquetry/api"
	"parquetry/canon"
	"parquetry/dart"
	"parquetry/dual"
	"parquetry/euler"
	"parquetry/perm"
	"parquetry/walk"
)

// made answers the map of sigma, root and lone, that are right.
func made(t *testing.T, sigma []int, root, lone int) *dart.Map {
	t.Helper()
	m, e := dart.New(sigma, root, lone)
	if e != api.OK || m == nil {
		t.Fatalf("New of %d darts, %d, %d: %v", len(sigma), root, lone, e)
	}
	return m
}

// turned answers the map whose vertices' darts are these, counter-clockwise.
func turned(t *testing.T, root, lone int, vertices ...[]int) *dart.Map {
	t.Helper()
	sigma := make([]int, len(slices.Concat(vertices...)))
	for _, darts := range vertices {
		for i, d := range darts {
			sigma[d] = darts[(i+1)%len(darts)]
		}
	}
	return made(t, sigma, root, lone)
}

// rooted answers m with the root d, that there is.
func rooted(t *testing.T, m *dart.Map, d int) *dart.Map {
	t.Helper()
	m, e := m.Rooted(d)
	if e != api.OK {
		t.Fatalf("Rooted of %d: %v", d, e)
	}
	return m
}

// relabelled answers m whose darts are called what l takes them to.
func relabelled(t *testing.T, m *dart.Map, l []int) *dart.Map {
	t.Helper()
	p, e := perm.Of(l)
	if e != api.OK {
		t.Fatalf("Of %v: %v", l, e)
	}
	m, e = dual.Relabel(m, p)
	if e != api.OK {
		t.Fatalf("Relabel by %v: %v", l, e)
	}
	return m
}

// perms answers all permutations of 0 to n - 1, as lists.
func perms(n int) [][]int {
	if n == 0 {
		return [][]int{{}}
	}
	var all [][]int
	for _, l := range perms(n - 1) {
		for at := range n {
			all = append(all, slices.Insert(slices.Clone(l), at, n-1))
		}
	}
	return all
}

// renamings answers all permutations of so many edges' darts that take mates
// to mates.
func renamings(edges int) [][]int {
	var all [][]int
	for _, to := range perms(edges) {
		for turns := range 1 << edges {
			all = append(all, renaming(to, turns))
		}
	}
	return all
}

// renaming answers the permutation that takes the edge e to to[e], turned or
// not by the bits of turns.
func renaming(to []int, turns int) []int {
	l := make([]int, 2*len(to))
	for e, other := range to {
		turn := turns >> e & 1
		l[2*e], l[2*e+1] = 2*other+turn, 2*other+1-turn
	}
	return l
}

// anyRenaming answers some permutation that takes mates to mates.
func anyRenaming(r *rand.Rand, edges int) []int {
	l := make([]int, 2*edges)
	for e, to := range r.Perm(edges) {
		turn := r.IntN(2)
		l[2*e], l[2*e+1] = 2*to+turn, 2*to+1-turn
	}
	return l
}

// split answers turns of n darts in many small orbits, so that a map of them
// has several parts.
func split(r *rand.Rand, n int) []int {
	sigma := make([]int, n)
	for d := range sigma {
		sigma[d] = d
	}
	for range n / 2 {
		i, j := r.IntN(n), r.IntN(n)
		sigma[i], sigma[j] = sigma[j], sigma[i]
	}
	return sigma
}

// modelNames answers the canonical name of each dart, by walks of all of m.
func modelNames(t *testing.T, m *dart.Map) []int {
	t.Helper()
	names := make([]int, m.Darts())
	edges := map[int]int{}
	for i := -1; i < m.Darts(); i++ {
		d := i
		if i == -1 {
			d = m.Root()
		}
		if _, ok := edges[d/2]; ok || d == -1 {
			continue
		}
		l, e := walk.Of(m, d)
		if e != api.OK {
			t.Fatalf("walk of %v from %d: %v", m.List(), d, e)
		}
		for _, s := range l {
			if _, ok := edges[s.Dart/2]; !ok {
				k := len(edges)
				edges[s.Dart/2] = k
				names[s.Dart], names[m.Mate(s.Dart)] = 2*k, 2*k+1
			}
		}
	}
	return names
}

// canonOf answers the canonical map of m, that there is.
func canonOf(t *testing.T, m *dart.Map) *dart.Map {
	t.Helper()
	named, p, e := canon.Canon(m)
	if e != api.OK || named == nil || p == nil {
		t.Fatalf("Canon of %v, %d, %d: %v", m.List(), m.Root(), m.Lone(), e)
	}
	return named
}

// check holds Canon and Is of m against what the names are.
func check(t *testing.T, m *dart.Map) {
	t.Helper()
	sigma, want := m.List(), modelNames(t, m)
	named, p, e := canon.Canon(m)
	if e != api.OK || p.Len() != m.Darts() || !slices.Equal(p.List(), want) {
		t.Fatalf("Canon of %v, %d: %v, %v, want %v", sigma, m.Root(), e, p.List(), want)
	}
	root := 0
	if len(sigma) == 0 {
		root = -1
	}
	if named.Root() != root || named.Lone() != m.Lone() || named.Darts() != m.Darts() {
		t.Fatalf("Canon of %v, %d: the root %d, %d lone", sigma, m.Root(), named.Root(), named.Lone())
	}
	for d, name := range want {
		if named.Sigma(name) != want[sigma[d]] || named.Mate(name) != want[d^1] {
			t.Fatalf("Canon of %v, %d: %v by %v", sigma, m.Root(), named.List(), want)
		}
	}
	again, q, e := canon.Canon(named)
	if e != api.OK || !dart.Same(again, named) || !perm.Same(q, perm.One(m.Darts())) || !canon.Is(named) {
		t.Fatalf("Canon of Canon of %v, %d: %v, %v", sigma, m.Root(), again.List(), q.List())
	}
	if canon.Is(m) != dart.Same(m, named) {
		t.Fatalf("Is of %v, %d: %v", sigma, m.Root(), canon.Is(m))
	}
	if !canon.Iso(m, named) || !canon.Iso(named, m) || !slices.Equal(m.List(), sigma) {
		t.Fatalf("%v, %d and its Canon %v", sigma, m.Root(), named.List())
	}
}

func TestP11_1AllSmall(t *testing.T) {
	for n := 0; n <= 6; n += 2 {
		for i, sigma := range perms(n) {
			for root := range n {
				check(t, made(t, sigma, root, i%3))
			}
		}
	}
	for _, lone := range []int{0, 1, 5} {
		check(t, made(t, nil, -1, lone))
	}
}

func TestP11_1Random(t *testing.T) {
	r := rand.New(rand.NewPCG(61, 62))
	for _, n := range []int{8, 10, 16, 50, 120} {
		for range 20 {
			for _, sigma := range [][]int{r.Perm(n), split(r, n)} {
				check(t, made(t, sigma, r.IntN(n), r.IntN(3)))
			}
		}
	}
}

// TestP11_1Known asks for names that were gone through by hand.
func TestP11_1Known(t *testing.T) {
	for _, x := range []struct {
		name  string
		m     *dart.Map
		names []int
		sigma []int
	}{
		{"a loop, from its odd dart", turned(t, 1, 0, []int{0, 1}), []int{1, 0}, []int{1, 0}},
		{"an edge", turned(t, 0, 2, []int{0}, []int{1}), []int{0, 1}, []int{0, 1}},
		{"two edges side by side", turned(t, 0, 0, []int{0, 2}, []int{1, 3}), []int{0, 1, 3, 2}, []int{3, 2, 1, 0}},
		{"a triangle", turned(t, 0, 0, []int{0, 5}, []int{1, 2}, []int{3, 4}), []int{0, 1, 2, 3, 4, 5}, []int{5, 2, 1, 4, 3, 0}},
		{"a triangle, from outside", turned(t, 5, 0, []int{0, 5}, []int{1, 2}, []int{3, 4}), []int{5, 4, 3, 2, 1, 0}, []int{5, 2, 1, 4, 3, 0}},
		{"a square with a chord", turned(t, 7, 0, []int{0, 7, 8}, []int{1, 2}, []int{3, 4, 9}, []int{5, 6}), []int{9, 8, 7, 6, 3, 2, 1, 0, 5, 4}, []int{5, 2, 1, 4, 6, 9, 3, 8, 7, 0}},
		{"the root's part ahead of the others", turned(t, 5, 1, []int{0}, []int{1, 2}, []int{3}, []int{4, 5}, []int{6, 7}), []int{2, 3, 4, 5, 1, 0, 6, 7}, []int{1, 0, 2, 4, 3, 5, 7, 6}},
		{"parts by their least darts, each from that one", turned(t, 4, 0, []int{4}, []int{5}, []int{6, 0, 3}, []int{7}, []int{1}, []int{2}), []int{2, 3, 5, 4, 0, 1, 6, 7}, []int{0, 1, 4, 3, 6, 5, 2, 7}},
	} {
		named, p, e := canon.Canon(x.m)
		if e != api.OK || !slices.Equal(p.List(), x.names) || !slices.Equal(named.List(), x.sigma) || named.Root() != 0 || named.Lone() != x.m.Lone() {
			t.Errorf("%s: %v, %v, want %v; %v, want %v", x.name, e, p.List(), x.names, named.List(), x.sigma)
		}
	}
}

// TestP11_1Counts holds how many canonical maps of one part there are against
// how many rooted maps: of all surfaces, and of the plane.
func TestP11_1Counts(t *testing.T) {
	for i, want := range [][2]int{{2, 2}, {10, 9}, {74, 54}, {706, 378}} {
		all, planar := map[string]int{}, map[string]int{}
		for _, sigma := range perms(2 * (i + 1)) {
			m := made(t, sigma, 0, 0)
			if !euler.Connected(m) {
				continue
			}
			key := fmt.Sprint(canonOf(t, m).List())
			all[key]++
			if euler.Planar(m) {
				planar[key]++
			}
		}
		if len(all) != want[0] || len(planar) != want[1] {
			t.Errorf("of %d edges: %d canonical maps, %d of them planar, want %v", i+1, len(all), len(planar), want)
		}
	}
}

func TestP11_1AnyNames(t *testing.T) {
	r := rand.New(rand.NewPCG(63, 64))
	for _, edges := range []int{1, 2, 3, 4, 10, 40} {
		for range 30 {
			m := made(t, r.Perm(2*edges), r.IntN(2*edges), 0)
			if !euler.Connected(m) {
				continue
			}
			other := relabelled(t, m, anyRenaming(r, edges))
			if !dart.Same(canonOf(t, m), canonOf(t, other)) {
				t.Fatalf("Canon of %v, %d and of %v, %d", m.List(), m.Root(), other.List(), other.Root())
			}
		}
	}
}

// along is Sigma of a path of n darts: of each vertex but the first and the
// last one the darts are an odd one and the next one.
func along(d, n int) int {
	switch {
	case d == 0 || d == n-1:
		return d
	case d%2 == 1:
		return d + 1
	}
	return d - 1
}

// large answers Sigma of n darts, by where it takes each.
func large(n int, to func(d int) int) []int {
	sigma := make([]int, n)
	for d := range sigma {
		sigma[d] = to(d)
	}
	return sigma
}

// TestP11_1Large names what is as large as can be, in one part and in as many
// as can be.
func TestP11_1Large(t *testing.T) {
	n := 2 * api.MaxEdges
	r := rand.New(rand.NewPCG(65, 66))
	for i, sigma := range [][]int{
		large(n, func(d int) int { return along(d, n) }),
		large(n, func(d int) int { return (d + 1) % n }),
		large(n, func(d int) int { return d }),
		large(n, func(d int) int { return d ^ 1 }),
		r.Perm(n), split(r, n),
	} {
		m := made(t, sigma, n-1, api.MaxLone)
		named, p, e := canon.Canon(m)
		if e != api.OK || named.Root() != 0 || p.At(n-1) != 0 || p.At(n-2) != 1 || named.Lone() != api.MaxLone {
			t.Fatal(i, e)
		}
		for d, to := range sigma {
			if named.Sigma(p.At(d)) != p.At(to) {
				t.Fatal(i, d)
			}
		}
		if !canon.Is(named) || canon.Is(m) || !canon.Iso(m, named) {
			t.Fatal(i)
		}
	}
}

func TestP11_1NewMemory(t *testing.T) {
	m := turned(t, 5, 1, []int{0}, []int{1, 2}, []int{3}, []int{4, 5}, []int{6, 7})
	for range 2 {
		named, p, e := canon.Canon(m)
		if e != api.OK || !slices.Equal(p.List(), []int{2, 3, 4, 5, 1, 0, 6, 7}) || !slices.Equal(named.List(), []int{1, 0, 2, 4, 3, 5, 7, 6}) {
			t.Fatal(p.List(), named.List())
		}
		clear(p.List())
		clear(named.List())
	}
}

// isoModel tells whether some permutation takes mates to mates, a's Sigma to
// b's, and its root to b's.
func isoModel(a, b *dart.Map, all [][]int) bool {
	from, to := a.List(), b.List()
	return slices.ContainsFunc(all, func(l []int) bool {
		if l[a.Root()] != b.Root() {
			return false
		}
		for d, next := range from {
			if to[l[d]] != l[next] {
				return false
			}
		}
		return true
	})
}

// checkIso holds Iso of any two maps of one part against isoModel.
func checkIso(t *testing.T, maps []*dart.Map, edges int) {
	t.Helper()
	all := renamings(edges)
	for _, a := range maps {
		for _, b := range maps {
			if want := isoModel(a, b, all); canon.Iso(a, b) != want {
				t.Fatalf("Iso of %v, %d and %v, %d: %v", a.List(), a.Root(), b.List(), b.Root(), !want)
			}
		}
	}
}

func TestP11_2Iso(t *testing.T) {
	for n := 2; n <= 4; n += 2 {
		var maps []*dart.Map
		for _, sigma := range perms(n) {
			for root := range n {
				if m := made(t, sigma, root, 0); euler.Connected(m) {
					maps = append(maps, m)
				}
			}
		}
		checkIso(t, maps, n/2)
	}
	r := rand.New(rand.NewPCG(67, 68))
	all := perms(6)
	for range 5 {
		var maps []*dart.Map
		for len(maps) < 30 {
			m := made(t, all[r.IntN(len(all))], r.IntN(6), 0)
			if euler.Connected(m) {
				maps = append(maps, m, rooted(t, relabelled(t, m, anyRenaming(r, 3)), r.IntN(6)))
			}
		}
		checkIso(t, maps, 3)
	}
}

func TestP11_2IsoOfAll(t *testing.T) {
	edgeLoop := turned(t, 0, 0, []int{0}, []int{1}, []int{2}, []int{3}, []int{4, 5})
	loopEdge := turned(t, 0, 0, []int{0}, []int{1}, []int{4}, []int{5}, []int{2, 3})
	bare, lone := made(t, nil, -1, 0), made(t, nil, -1, 1)
	for _, x := range []struct {
		name string
		a, b *dart.Map
		want bool
	}{
		{"nil and nil", nil, nil, true},
		{"nil and nothing", nil, bare, false},
		{"nil and a vertex", nil, lone, false},
		{"nil and an edge", nil, turned(t, 0, 0, []int{0}, []int{1}), false},
		{"nothing and nothing", bare, made(t, nil, -1, 0), true},
		{"nothing and a vertex", bare, lone, false},
		{"two lone vertices and two", made(t, nil, -1, 2), made(t, nil, -1, 2), true},
		{"an edge, from both ends", turned(t, 0, 0, []int{0}, []int{1}), turned(t, 1, 0, []int{0}, []int{1}), true},
		{"an edge, one with a lone vertex", turned(t, 0, 0, []int{0}, []int{1}), turned(t, 0, 1, []int{0}, []int{1}), false},
		{"an edge and a loop", turned(t, 0, 0, []int{0}, []int{1}), turned(t, 0, 0, []int{0, 1}), false},
		{"a path, from its end and from its middle", turned(t, 0, 0, []int{0}, []int{1, 2}, []int{3}), turned(t, 1, 0, []int{0}, []int{1, 2}, []int{3}), false},
		{"two parts, the other root", turned(t, 0, 0, []int{0}, []int{1}, []int{2, 3}), turned(t, 2, 0, []int{0}, []int{1}, []int{2, 3}), false},
		{"two parts, named the other way", turned(t, 0, 0, []int{0}, []int{1}, []int{2, 3}), turned(t, 3, 0, []int{2}, []int{3}, []int{0, 1}), true},
		{"parts in another order behind the root's", edgeLoop, loopEdge, false},
		{"parts in the same order behind the root's", edgeLoop, turned(t, 2, 0, []int{2}, []int{3}, []int{0}, []int{1}, []int{4, 5}), true},
	} {
		if canon.Iso(x.a, x.b) != x.want || canon.Iso(x.b, x.a) != x.want {
			t.Errorf("%s: Iso %v", x.name, !x.want)
		}
	}
}

func TestP11_2Is(t *testing.T) {
	for _, x := range []struct {
		name string
		m    *dart.Map
		want bool
	}{
		{"nil", nil, false},
		{"nothing", made(t, nil, -1, 0), true},
		{"lone vertices", made(t, nil, -1, 3), true},
		{"an edge", turned(t, 0, 0, []int{0}, []int{1}), true},
		{"an edge, from its odd dart", turned(t, 1, 0, []int{0}, []int{1}), false},
		{"two edges side by side", turned(t, 0, 0, []int{0, 2}, []int{1, 3}), false},
		{"two edges side by side, one turned", turned(t, 0, 0, []int{0, 3}, []int{1, 2}), true},
		{"the root's part behind another", turned(t, 2, 0, []int{0}, []int{1}, []int{2, 3}), false},
		{"another part not from its first dart", turned(t, 0, 0, []int{0}, []int{1}, []int{2, 5, 3, 4}), false},
		{"another part from its first dart", turned(t, 0, 0, []int{0}, []int{1}, []int{2, 4, 3, 5}), true},
	} {
		if canon.Is(x.m) != x.want {
			t.Errorf("%s: Is %v", x.name, !x.want)
		}
	}
	for n := 2; n <= 6; n += 2 {
		for i, sigma := range perms(n) {
			for root := range n {
				m := made(t, sigma, root, i%2)
				if canon.Is(m) != dart.Same(m, canonOf(t, m)) {
					t.Fatalf("Is of %v, %d: %v", sigma, root, canon.Is(m))
				}
			}
		}
	}
}

func TestP11_Nil(t *testing.T) {
	if m, p, e := canon.Canon(nil); m != nil || p != nil || e != api.ErrNone {
		t.Fatal(m, p, e)
	}
	if canon.Is(nil) || canon.Shape(nil) != 0 {
		t.Fatal(canon.Is(nil), canon.Shape(nil))
	}
}

func TestExamples(t *testing.T) {
	for _, x := range []struct {
		m    *dart.Map
		want int
	}{
		{turned(t, 0, 0, []int{0}, []int{1}), 2},
		{turned(t, 1, 0, []int{0, 1}), 2},
		{turned(t, 3, 0, []int{0, 5}, []int{1, 2}, []int{3, 4}), 6},
	} {
		if got := canon.Shape(x.m); got != x.want {
			t.Errorf("Shape of %v: %d, want %d", x.m.List(), got, x.want)
		}
	}
}

package samples

import (
	"slices"

	"parquetry/api"
	"parquetry/dart"
	"parquetry/dual"
	"parquetry/mixed"
	"parquetry/perm"
	"parquetry/turan"
)

// Test is what of a test is called here: it is failed, and ended, where what
// is asked for can't be made.
type Test interface {
	Helper()
	Fatalf(format string, args ...any)
}

// Map answers the map of sigma, root and lone, that are right.
func Map(t Test, sigma []int, root, lone int) *dart.Map {
	t.Helper()
	m, err := dart.New(sigma, root, lone)
	if err != api.OK || m == nil {
		t.Fatalf("New of %d darts, %d, %d: %v", len(sigma), root, lone, err)
	}
	return m
}

// Perm answers the permutation l, that is one.
func Perm(t Test, l []int) *perm.Perm {
	t.Helper()
	p, err := perm.Of(l)
	if err != api.OK || p == nil {
		t.Fatalf("Of(%v): %v", l, err)
	}
	return p
}

// Mate is the other one of 2e and 2e + 1.
func Mate(d int) int {
	if d%2 == 0 {
		return d + 1
	}
	return d - 1
}

// Sigma answers where it goes, of vertices whose darts are these,
// counter-clockwise.
func Sigma(vertices ...[]int) []int {
	sigma := make([]int, len(slices.Concat(vertices...)))
	for _, darts := range vertices {
		for i, d := range darts {
			sigma[d] = darts[(i+1)%len(darts)]
		}
	}
	return sigma
}

// Each answers Sigma of n darts, by where it takes each of them.
func Each(n int, to func(d int) int) []int {
	sigma := make([]int, n)
	for d := range sigma {
		sigma[d] = to(d)
	}
	return sigma
}

// Path answers Sigma of a path of n darts: of each vertex but the first and
// the last one the darts are an odd one and the next one.
func Path(n int) []int {
	return Each(n, func(d int) int {
		switch {
		case d == 0 || d == n-1:
			return d
		case d%2 == 1:
			return d + 1
		}
		return d - 1
	})
}

// Turned answers the map of Sigma of these vertices.
func Turned(t Test, root, lone int, vertices ...[]int) *dart.Map {
	t.Helper()
	return Map(t, Sigma(vertices...), root, lone)
}

// Rooted answers m with the root d, that there is.
func Rooted(t Test, m *dart.Map, d int) *dart.Map {
	t.Helper()
	m, err := m.Rooted(d)
	if err != api.OK {
		t.Fatalf("Rooted(%d): %v", d, err)
	}
	return m
}

// Relabelled answers m whose darts are called what l takes them to.
func Relabelled(t Test, m *dart.Map, l []int) *dart.Map {
	t.Helper()
	m, err := dual.Relabel(m, Perm(t, l))
	if err != api.OK {
		t.Fatalf("Relabel by %v: %v", l, err)
	}
	return m
}

// Renamed answers m with some other names of its darts, and the same root.
func Renamed(t Test, pick func(n int) int, m *dart.Map) *dart.Map {
	t.Helper()
	return Relabelled(t, m, Names(pick, m.Edges()))
}

// Word answers the word that s alone tells.
func Word(t Test, s string) *mixed.Word {
	t.Helper()
	w, n, err := mixed.Parse(s)
	if err != api.OK || w == nil || n != len(s) {
		t.Fatalf("Parse of %s: %d, %v", Short(s), n, err)
	}
	return w
}

// Drawn answers the canonical map whose word s tells, that is right.
func Drawn(t Test, s string) *dart.Map {
	t.Helper()
	m, err := turan.Decode(Word(t, s))
	if err != api.OK {
		t.Fatalf("Decode of %s: %v", Short(s), err)
	}
	return m
}

// Planar answers some planar map of one part, of so many edges, 1 at least, by
// some names and from some root.
func Planar(t Test, pick func(n int) int, edges int) *dart.Map {
	t.Helper()
	m := Renamed(t, pick, Drawn(t, RightText(pick, edges, 1+pick(9), 1+pick(9))))
	return Rooted(t, m, pick(m.Darts()))
}

// Beside answers the parts of these maps in one, those ahead of others with
// the lower darts, from the least dart on.
func Beside(t Test, maps ...*dart.Map) *dart.Map {
	t.Helper()
	var sigma []int
	lone := 0
	for _, m := range maps {
		first := len(sigma)
		for _, d := range m.List() {
			sigma = append(sigma, first+d)
		}
		lone += m.Lone()
	}
	root := 0
	if len(sigma) == 0 {
		root = -1
	}
	return Map(t, sigma, root, lone)
}

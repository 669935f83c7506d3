package canon

import (
	"slices"

	"parquetry/dart"
	"parquetry/euler"
)

// Shape is how many darts of m, of one part, there are such that m with that
// root is Iso to m: else, and without darts, 0.
func Shape(m *dart.Map) int {
	if m.Darts() == 0 || !euler.Connected(m) {
		return 0
	}
	t := turner{m: m, image: slices.Repeat([]int{unset}, m.Darts()), told: make([]int, m.Darts())}
	like := t.reach(m.Root())
	for _, d := range alike(m, m.Root()) {
		switch {
		case t.told[d] > 0:
		case t.turns(m.Root(), d):
			like = t.reach(m.Root())
		default:
			t.reach(d)
		}
	}
	return like
}

// turner finds how a map of one part turns into itself. Each such turn is told
// by where it takes one dart. Two of them, one behind the other, are a turn,
// too: so a dart is told of by any that a known turn takes to it, and few
// darts have to be tried.
type turner struct {
	m     *dart.Map
	known [][]int // turns: where each takes every dart
	image []int   // where the turn that is tried takes each dart
	told  []int   // of each dart, which reach came to it last; none: 0
	times int     // how often reach was called
}

// reach tells of d, and of all darts that the known turns take it to: it
// answers how many these are.
func (t *turner) reach(d int) int {
	t.times++
	t.told[d] = t.times
	reached := []int{d}
	for i := 0; i < len(reached); i++ {
		for _, turn := range t.known {
			next := turn[reached[i]]
			if t.told[next] != t.times {
				t.told[next] = t.times
				reached = append(reached, next)
			}
		}
	}
	return len(reached)
}

// turns tells whether the map turns into itself such that from goes to to:
// that turn is known then.
func (t *turner) turns(from, to int) bool {
	t.image[from] = to
	tried := []int{from}
	right := true
	for i := 0; i < len(tried) && right; i++ {
		d := tried[i]
		for _, step := range [2]func(d int) int{t.m.Sigma, t.m.Mate} {
			next, want := step(d), step(t.image[d])
			if t.image[next] == unset {
				t.image[next] = want
				tried = append(tried, next)
			}
			right = right && t.image[next] == want
		}
	}
	if right {
		t.known = append(t.known, slices.Clone(t.image))
	}
	// Most that isn't right is known soon: only what was tried is put back.
	for _, d := range tried {
		t.image[d] = unset
	}
	return right
}

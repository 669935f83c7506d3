package wood

import (
	"slices"

	"parquetry/dart"
)

// peeled answers how the darts of m go out, if its vertices go from the end of
// the order on.
func peeled(m *dart.Map, order []int) []int {
	places := make([]int, len(order))
	for i, v := range order {
		places[v] = i
	}
	// isLeft tells whether, as d's vertex goes, that of its Mate is left.
	isLeft := func(d int) bool { return places[m.Vertex(m.Mate(d))] < places[m.Vertex(d)] }
	drawn := newDraft(m, []int{order[0], order[1], order[len(order)-1]}, slices.Repeat([]int{none}, m.Darts()))
	for d := range drawn.out {
		// What is left around a vertex is one run, between what is ahead of it
		// on the border and what is behind it there. The third corner's run
		// has no ends; but these would be edges between corners.
		switch {
		case !isLeft(d) || drawn.isSide(d):
		case !isLeft(m.Back(d)):
			drawn.out[d] = 1
		case !isLeft(m.Sigma(d)):
			drawn.out[d] = 2
		default:
			drawn.out[m.Mate(d)] = 0
		}
	}
	return drawn.out
}

// draft is a triangulation with some colors of its darts.
type draft struct {
	m    *dart.Map
	ends [colorCount]int // of each color, the corner at which it comes in
	out  []int           // of each dart, with which color it goes out
}

// newDraft answers the draft of m, whose corners these are, in layer 14's
// order.
func newDraft(m *dart.Map, corners, out []int) draft {
	return draft{m: m, ends: [colorCount]int{corners[2], corners[0], corners[1]}, out: out}
}

// comes is the color that comes in at the vertex v alone, if it is a corner;
// else none.
func (x draft) comes(v int) int { return slices.Index(x.ends[:], v) }

// isSide tells whether d's edge is between two corners.
func (x draft) isSide(d int) bool {
	return x.comes(x.m.Vertex(d)) != none && x.comes(x.m.Vertex(x.m.Mate(d))) != none
}

// isWood tells whether the draft is a wood.
func (x draft) isWood() bool {
	for d := range x.out {
		if !x.isDirected(d) {
			return false
		}
	}
	for v, d := range firsts(x.m) {
		if !x.isRight(v, x.m.Around(d)) {
			return false
		}
	}
	return true
}

// isDirected tells whether d's edge goes out at just one of its ends; or, if
// it is between two corners, at none.
func (x draft) isDirected(d int) bool {
	goes, comes := x.out[d] != none, x.out[x.m.Mate(d)] != none
	if x.isSide(d) {
		return !goes && !comes
	}
	return goes != comes
}

// isRight tells whether the darts around v, whose edges are directed, have the
// colors that they must have.
func (x draft) isRight(v int, around []int) bool {
	if color := x.comes(v); color != none {
		return x.comeIn(around, color)
	}
	return x.turnsRight(around)
}

// comeIn tells whether, of the darts around a corner, all but those that go to
// corners come in with its color.
func (x draft) comeIn(around []int, color int) bool {
	return !slices.ContainsFunc(around, func(d int) bool {
		return !x.isSide(d) && x.out[x.m.Mate(d)] != color
	})
}

// turnsRight tells whether the darts around a vertex that is no corner are in
// turn what they must be.
func (x draft) turnsRight(around []int) bool {
	var turns []int
	goes := [colorCount]int{}
	for _, d := range around {
		turns = append(turns, x.turn(d))
		if color := x.out[d]; color != none {
			goes[color]++
		}
	}
	if goes != [colorCount]int{1, 1, 1} {
		return false
	}
	from := slices.Index(turns, 0)
	return slices.IsSorted(slices.Concat(turns[from:], turns[:from]))
}

// turn is when d has its turn around a vertex that is no corner: what goes out
// with 0, comes in with 2, goes out with 1, comes in with 0, goes out with 2,
// comes in with 1.
func (x draft) turn(d int) int {
	if color := x.out[d]; color != none {
		return 2 * color
	}
	return (2*x.out[x.m.Mate(d)] + colorCount) % (2 * colorCount)
}

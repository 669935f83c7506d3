package look

import (
	"iter"

	"parquetry/mixed"
)

// What is here is asked of places and vertices that there are: none of it can
// fail.

// root is the vertex that no letter opens.
const root = 0

// mate is the place of the other letter of the pair: its edge's other dart.
func (l *Look) mate(i int) int {
	other, _ := l.index.Mate(i)
	return other
}

// turned is the place of the dart that the walk turns around, having looked at
// the one at the place i: it goes along an edge of its tree, and not along any
// other one.
func (l *Look) turned(i int) int {
	switch l.index.At(i) {
	case mixed.Open, mixed.Close:
		return l.mate(i)
	}
	return i
}

// next is the place of Sigma. The walk looks at that of the dart that it turns
// around, and to turn twice is to stay.
func (l *Look) next(i int) int { return (l.turned(i) + 1) % l.places() }

// back is the place whose next is i.
func (l *Look) back(i int) int { return l.turned((i + l.places() - 1) % l.places()) }

// along is the place of Phi.
func (l *Look) along(i int) int { return l.next(l.mate(i)) }

// opened is how many vertices opened ahead of the place i, or of the end.
func (l *Look) opened(i int) int {
	n, _ := l.index.Rank(mixed.Open, i)
	return n
}

// vertex is the number of the dart's vertex: that which the innermost round
// pair around the letter opened.
func (l *Look) vertex(i int) int {
	owner, _ := l.index.Owner(i)
	if owner < 0 {
		return root
	}
	return 1 + l.opened(owner)
}

// end is the number of the vertex at the dart's other end.
func (l *Look) end(i int) int { return l.vertex(l.mate(i)) }

// first is the place of the dart of v that is looked at first, if v has any:
// it is the one behind that which opened v.
func (l *Look) first(v int) int {
	if v == root {
		return 0
	}
	opening, _ := l.index.Select(mixed.Open, v-1)
	return opening + 1
}

// ring goes through the places from i on, each one step behind the last, till
// i comes again.
func (l *Look) ring(i int, step func(l *Look, i int) int) iter.Seq[int] {
	return func(yield func(i int) bool) {
		for at := i; yield(at); {
			at = step(l, at)
			if at == i {
				return
			}
		}
	}
}

// around goes through the places of v's darts, from its first on.
func (l *Look) around(v int) iter.Seq[int] {
	if l.places() == 0 {
		return func(func(i int) bool) {}
	}
	return l.ring(l.first(v), (*Look).next)
}

// joined tells whether there is an edge between u and v. Such an edge is at
// both: it is known as soon as one of the two has been gone around.
func (l *Look) joined(u, v int) bool {
	first := l.first(v)
	other := first
	for i := range l.around(u) {
		if l.end(i) == v || l.end(other) == u {
			return true
		}
		other = l.next(other)
		if other == first {
			return false
		}
	}
	return false
}

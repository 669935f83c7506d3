package script

import (
	"parquetry/api"
	"parquetry/canon"
	"parquetry/dart"
	"parquetry/dual"
	"parquetry/grow"
)

// noEdge is the edge of a dart below 0.
const noEdge = -1

// deed is what acts of one kind do to a map, that isn't nil.
type deed func(m *dart.Map, a Act) (*dart.Map, api.Errno)

// deedOf answers what the acts of a kind do; nil, of no kind.
func deedOf(kind int) deed {
	switch kind {
	case Leaf:
		return atDart(grow.Leaf)
	case Chord:
		return func(m *dart.Map, a Act) (*dart.Map, api.Errno) { return grow.Chord(m, a.D, a.E) }
	case Split:
		return atDart(grow.Split)
	case Star:
		return atDart(grow.Star)
	case Flip:
		return atDart(grow.Flip)
	case Root:
		return atDart((*dart.Map).Rooted)
	case Dual:
		return asWhole(dual.Dual)
	case Mirror:
		return asWhole(dual.Mirror)
	case Cut:
		return atEdge(dual.Cut)
	case Shrink:
		return atEdge(dual.Shrink)
	case Canon:
		return named
	}
	return nil
}

// atDart answers the deed that does this at the act's first dart.
func atDart(do func(m *dart.Map, d int) (*dart.Map, api.Errno)) deed {
	return func(m *dart.Map, a Act) (*dart.Map, api.Errno) { return do(m, a.D) }
}

// atEdge answers the deed that does this at the edge of the act's first dart.
func atEdge(do func(m *dart.Map, e int) (*dart.Map, api.Errno)) deed {
	return func(m *dart.Map, a Act) (*dart.Map, api.Errno) { return do(m, edgeOf(a.D)) }
}

// asWhole answers the deed that does this to all of the map, and can't fail.
func asWhole(do func(m *dart.Map) *dart.Map) deed {
	return func(m *dart.Map, _ Act) (*dart.Map, api.Errno) { return do(m), api.OK }
}

// named is the deed that answers m by its canonical names.
func named(m *dart.Map, _ Act) (*dart.Map, api.Errno) {
	canonical, _, err := canon.Canon(m)
	return canonical, err
}

// edgeOf is the edge that the dart d is of, if there is one.
func edgeOf(d int) int {
	// A half of -1 would be the edge 0.
	if d < 0 {
		return noEdge
	}
	return d / 2
}

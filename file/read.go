package file

import (
	"parquetry/api"
	"parquetry/bits"
	"parquetry/dart"
	"parquetry/dual"
	"parquetry/label"
	"parquetry/pack"
)

// noDart is the root of a map without darts.
const noDart = -1

// reader is what is left to read of a file, and the parts that were read.
type reader struct {
	o     Options
	rest  []byte
	sigma []int // of all darts of these parts, one part behind the other
}

// read answers the map that p tells, which stood between a file's options and
// its checksum, or that it tells none.
func read(p []byte, o Options) (*dart.Map, bool) {
	r := &reader{o: o, rest: p}
	lone, ok := r.number(api.MaxLone)
	if !ok {
		return nil, false
	}
	parts, ok := r.number(api.MaxEdges)
	if !ok {
		return nil, false
	}
	for range parts {
		if !r.part() {
			return nil, false
		}
	}
	root := noDart
	if len(r.sigma) > 0 {
		root = 0
	}
	m, err := dart.New(r.sigma, root, lone)
	if err != api.OK {
		return nil, false
	}
	if o.Labels {
		return r.named(m)
	}
	return m, true
}

// number takes the number that comes next, if it isn't above most.
func (r *reader) number(most int) (int, bool) {
	x, taken, err := pack.GetNum(r.rest)
	if err != api.OK || x > uint64(most) {
		return 0, false
	}
	r.rest = r.rest[taken:]
	return int(x), true
}

// part takes the part that comes next.
func (r *reader) part() bool {
	size, ok := r.number(api.MaxEdges)
	if !ok {
		return false
	}
	// Few bytes may tell many edges: no more of them are gone through than
	// one map has.
	length, edges := r.o.extent(size)
	if edges > api.MaxEdges-len(r.sigma)/2 {
		return false
	}
	v, taken, err := pack.Unpack(r.rest, length, r.o.Plain)
	if err != api.OK {
		return false
	}
	m, err := r.o.draw(v)
	if err != api.OK {
		return false
	}
	r.rest = r.rest[taken:]
	first := len(r.sigma)
	for d := range m.Darts() {
		r.sigma = append(r.sigma, first+m.Sigma(d))
	}
	return true
}

// named answers m, a canonical map, by the names that all that is left tells.
func (r *reader) named(m *dart.Map) (*dart.Map, bool) {
	v, err := bits.Of(r.rest, label.Size(m.Edges()))
	if err != api.OK {
		return nil, false
	}
	names, err := label.Decode(v, m.Edges())
	if err != api.OK {
		return nil, false
	}
	m, err = dual.Relabel(m, names)
	return m, err == api.OK
}

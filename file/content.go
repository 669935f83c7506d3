package file

import (
	"parquetry/api"
	"parquetry/bits"
	"parquetry/canon"
	"parquetry/dart"
	"parquetry/euler"
	"parquetry/label"
	"parquetry/mixed"
	"parquetry/pack"
	"parquetry/turan"
	"parquetry/word"
)

// edgeBits is how many bits of a word an edge has.
const edgeBits = 4

// content is what a file tells of a map.
type content struct {
	lone  int
	parts []part
	names *bits.Vec // where the canonical names go; nil without Labels
}

// part is darts that come to one another, as their word's or their code's
// bits.
type part struct {
	size int // how many edges, of a word, or how many vertices, of a code
	bits *bits.Vec
}

// contentOf answers what the file of m tells, or why there is none.
func contentOf(m *dart.Map, o Options) (content, api.Errno) {
	switch {
	case m == nil:
		return content{}, api.ErrNone
	case !euler.Planar(m):
		return content{}, api.ErrPlanar
	}
	// By canonical names the parts stand in the order in which they are told,
	// each from its least dart on. m isn't nil: Canon can't fail.
	named, names, _ := canon.Canon(m)
	c := content{lone: m.Lone()}
	for _, p := range euler.Parts(named) {
		if p.Edges == 0 {
			continue
		}
		told, err := o.write(alone(named, p))
		if err != api.OK {
			return content{}, err
		}
		c.parts = append(c.parts, told)
	}
	if o.Labels {
		// Names take Mates to Mates, there and back: Encode can't fail.
		c.names, _ = label.Encode(names.Inverse())
	}
	return c, api.OK
}

// alone answers a part of named, that is its own canonical map, as a map.
func alone(named *dart.Map, p euler.Part) *dart.Map {
	sigma := make([]int, 2*p.Edges)
	for d := range sigma {
		sigma[d] = named.Sigma(p.Root+d) - p.Root
	}
	// Its darts stand side by side, from its root on: New can't fail.
	m, _ := dart.New(sigma, 0, 0)
	return m
}

// write answers a planar map of one part by its word, or by its code.
func (o Options) write(m *dart.Map) (part, api.Errno) {
	if o.Tri {
		v, err := word.Encode(m)
		return part{size: m.Vertices(), bits: v}, err
	}
	w, err := turan.Encode(m)
	return part{size: m.Edges(), bits: w.Bits()}, err
}

// draw answers the canonical map whose word, or whose code, the bits are.
func (o Options) draw(v *bits.Vec) (*dart.Map, api.Errno) {
	if o.Tri {
		return word.Decode(v)
	}
	w, err := mixed.Of(v)
	if err != api.OK {
		return nil, err
	}
	return turan.Decode(w)
}

// extent is how many bits, and how many edges, a part of a size has.
func (o Options) extent(size int) (length, edges int) {
	if o.Tri {
		return word.Size(size), 3*size - 6
	}
	return edgeBits * size, size
}

// payload is how many bits there are.
func (c content) payload() int {
	length := c.names.Len()
	for _, p := range c.parts {
		length += p.bits.Len()
	}
	return length
}

// bytes answers what stands in the file between the options and the checksum.
func (c content) bytes(o Options) []byte {
	p := pack.Num(number(c.lone), uint64(len(c.parts)))
	for _, part := range c.parts {
		// Num puts a number behind a copy: of all that is told already, part
		// by part, that would take too long.
		p = append(p, number(part.size)...)
		p = append(p, pack.Pack(part.bits, o.Plain)...)
	}
	return append(p, c.names.Bytes()...)
}

// number answers n, that isn't below 0, as bytes.
func number(n int) []byte { return pack.Num(nil, uint64(n)) }

package grow

import (
	"parquetry/api"
	"parquetry/dart"
)

// turns is how darts turn around vertices while a map grows.
type turns struct {
	to   []int // where Sigma goes
	back []int // who goes there
}

// turnsOf answers those of m.
func turnsOf(m *dart.Map) *turns {
	x := &turns{to: m.List(), back: make([]int, m.Darts())}
	for d, next := range x.to {
		x.back[next] = d
	}
	return x
}

// next is what the even dart of the next new edge will be.
func (x *turns) next() int { return len(x.to) }

// edge answers the darts of a new edge: each stands alone.
func (x *turns) edge() (even, odd int) {
	even = x.next()
	odd = even + 1
	x.to = append(x.to, even, odd)
	x.back = append(x.back, even, odd)
	return even, odd
}

// link lets to be the one behind from.
func (x *turns) link(from, to int) { x.to[from], x.back[to] = to, from }

// put lets d, that stands alone, stand right behind at.
func (x *turns) put(d, at int) {
	behind := x.to[at]
	x.link(at, d)
	x.link(d, behind)
}

// take lets d stand alone.
func (x *turns) take(d int) {
	x.link(x.back[d], x.to[d])
	x.link(d, d)
}

// drawn answers the map that turns so, else like m.
func (x *turns) drawn(m *dart.Map) (*dart.Map, api.Errno) {
	return dart.New(x.to, m.Root(), m.Lone())
}

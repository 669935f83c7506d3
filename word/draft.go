package word

import (
	"slices"

	"parquetry/api"
	"parquetry/bits"
	"parquetry/dart"
	"parquetry/paren"
)

const none = -1 // no vertex, and no dart

// The vertices of a draft are numbered in the order in which they are come
// down to.
const (
	c  = 0
	v1 = 1
)

// draft is what a code tells of a map: edges of three colors.
type draft struct {
	goes   [colorCount][]int   // of each color, where each vertex's edge of it goes
	darts  [colorCount][]int   // the dart with which that edge goes out
	comes  [colorCount][][]int // of each color, whose edges of it come to each vertex, by Sigma
	edges  int
	met    int   // the vertex that was come down to last
	left   []int // the vertices in the order in which they are left up for good
	beyond []int // of each of them, the one that is come down to next then
}

// newDraft answers the draft of n vertices, without edges, at c.
func newDraft(n int) *draft {
	x := &draft{met: c, beyond: make([]int, n)}
	for color := range colorCount {
		x.goes[color] = slices.Repeat([]int{none}, n)
		x.darts[color] = slices.Repeat([]int{none}, n)
		x.comes[color] = make([][]int, n)
	}
	return x
}

// size is how many vertices there are.
func (x *draft) size() int { return len(x.beyond) }

// v2 is the vertex that is left last.
func (x *draft) v2() int { return x.left[len(x.left)-1] }

// join lets v's edge of a color go to another vertex, behind those that came
// there.
func (x *draft) join(color, v, to int) {
	x.goes[color][v], x.darts[color][v] = to, 2*x.edges
	x.comes[color][to] = append(x.comes[color][to], v)
	x.edges++
}

// drawn answers the map that the two parts of a code tell, or that they tell
// none.
func drawn(way *paren.Paren, second *bits.Vec) (*dart.Map, bool) {
	n := way.Len()/2 + 1
	if n > mostVertices {
		return nil, false
	}
	come, ok := counts(second, n-1)
	if !ok {
		return nil, false
	}
	x := newDraft(n)
	x.goAround(way)
	if !x.drawOnes(way, come) || !x.drawTwos() {
		return nil, false
	}
	m, e := dart.New(x.turns(), mate(x.darts[1][x.v2()]), 0)
	return m, e == api.OK
}

// counts answers how many ones stand ahead of each of n noughts, if there are
// just so many, and nothing behind the last one.
func counts(v *bits.Vec, n int) ([]int, bool) {
	come := []int{0}
	for i := range v.Len() {
		if v.At(i) == 1 {
			come[len(come)-1]++
		} else {
			come = append(come, 0)
		}
	}
	return come[:len(come)-1], len(come) == n+1 && come[n] == 0
}

// goAround joins what is of color 0, as the way around that tree tells.
func (x *draft) goAround(way *paren.Paren) {
	at := c
	for i := range way.Len() {
		if way.Open(i) {
			x.met++
			x.join(0, x.met, at)
			at = x.met
			continue
		}
		x.left = append(x.left, at)
		x.beyond[at] = x.met + 1
		at = x.goes[0][at]
	}
}

// drawOnes joins what is of color 1. No two edges cross: so each vertex's goes
// to the last one that was left ahead of it and waits for some yet. False: no
// one waits.
func (x *draft) drawOnes(way *paren.Paren, come []int) bool {
	var waiting []int
	met, left := c, 0
	for i := range way.Len() {
		if !way.Open(i) {
			waiting = append(waiting, slices.Repeat(x.left[left:left+1], come[left])...)
			left++
			continue
		}
		met++
		if met == v1 {
			continue
		}
		last := len(waiting) - 1
		if last < 0 {
			return false
		}
		x.join(1, met, waiting[last])
		waiting = waiting[:last]
	}
	// The first one to come is the last one around the vertex.
	for v := range x.size() {
		slices.Reverse(x.comes[1][v])
	}
	return true
}

// drawTwos joins what is of color 2, so that faces are triangles. Where an
// edge goes hangs on vertices that are left later alone. False: there is no
// such vertex.
func (x *draft) drawTwos() bool {
	for _, v := range slices.Backward(x.left) {
		if v == v1 || v == x.v2() {
			continue
		}
		to := x.across(v)
		if to == none {
			return false
		}
		x.join(2, v, to)
	}
	return true
}

// across is where v's edge of color 2 goes: it is a side of the triangle whose
// other side at v is the next edge by Sigma.
func (x *draft) across(v int) int {
	if come := x.comes[1][v]; len(come) > 0 {
		return x.behind(come[0], come[0]+1)
	}
	return x.behind(x.goes[0][v], x.beyond[v])
}

// behind is u, if it is v's child; else v has no child from there on, and it
// is where v's edge of color 2 goes.
func (x *draft) behind(v, u int) int {
	if u < x.size() && x.goes[0][u] == v {
		return u
	}
	return x.goes[2][v]
}

// turns answers where Sigma goes.
func (x *draft) turns() []int {
	sigma := make([]int, 2*x.edges)
	for v := range x.size() {
		around := x.around(v)
		for i, d := range around {
			sigma[d] = around[(i+1)%len(around)]
		}
	}
	return sigma
}

// around answers the darts of v: each color that goes out, and behind it those
// that come in with the color ahead of it.
func (x *draft) around(v int) []int {
	var around []int
	for color := range colorCount {
		if d := x.darts[color][v]; d != none {
			around = append(around, d)
		}
		ahead := (color + colorCount - 1) % colorCount
		for _, u := range x.comes[ahead][v] {
			around = append(around, mate(x.darts[ahead][u]))
		}
	}
	return around
}

// mate is the other dart of d's edge.
func mate(d int) int { return d ^ 1 }

package shell

import (
	"slices"

	"parquetry/dart"
)

// absent is the neighbour on the border of what isn't there, and the place of
// what stands nowhere.
const absent = -1

// peel is a triangulation whose vertices are taken away, one after the other.
type peel struct {
	around      [][]int // of each vertex its neighbours, by Sigma
	first, last int     // of the border
	ahead       []int   // of each vertex of the border, the one ahead of it there
	behind      []int   // the one behind it
	on          []bool  // of each vertex: is it on the border?
	gone        []bool  // of each vertex: was it taken away?
	joined      []int   // of each vertex of the border, how many of its neighbours are on it
}

// newPeel answers the whole of m, with the border between its corners.
func newPeel(m *dart.Map, corners []int) *peel {
	n := m.Vertices()
	p := &peel{
		first: corners[0], last: corners[1],
		ahead: slices.Repeat([]int{absent}, n), behind: slices.Repeat([]int{absent}, n),
		on: make([]bool, n), gone: make([]bool, n), joined: make([]int, n),
	}
	for _, d := range firsts(m) {
		p.around = append(p.around, neighbours(m, d))
	}
	for _, v := range corners {
		p.enter(v)
	}
	p.link([]int{p.first, corners[2], p.last})
	return p
}

// enter lets v be on the border.
func (p *peel) enter(v int) {
	p.on[v] = true
	for _, u := range p.around[v] {
		if p.on[u] {
			p.joined[u]++
			p.joined[v]++
		}
	}
}

// link lets these stand behind one another on the border.
func (p *peel) link(l []int) {
	for i, v := range l[1:] {
		p.behind[l[i]], p.ahead[v] = v, l[i]
	}
}

// mayGo is the first one on the border, from at on, that may go: there is
// always one, of a triangulation.
func (p *peel) mayGo(at int) int {
	for at == p.first || p.joined[at] > 2 {
		at = p.behind[at]
	}
	return at
}

// take takes v away from the border: its neighbours that are left stand there
// in its place.
func (p *peel) take(v int) {
	fan := p.fan(v)
	p.on[v], p.gone[v] = false, true
	for _, u := range p.around[v] {
		if p.on[u] {
			p.joined[u]--
		}
	}
	for _, u := range fan {
		p.enter(u)
	}
	p.link(slices.Concat([]int{p.ahead[v]}, fan, []int{p.behind[v]}))
}

// fan answers the neighbours of v that come on the border in its place.
func (p *peel) fan(v int) []int {
	l := p.around[v]
	from := slices.Index(l, p.ahead[v])
	var fan []int
	for _, u := range slices.Concat(l[from:], l[:from]) {
		if !p.on[u] && !p.gone[u] {
			fan = append(fan, u)
		}
	}
	return fan
}

// Package perm is layer 5: permutations.
package perm

import (
	"slices"

	"parquetry/api"
)

// most is how many numbers of eight bytes one answer may hold at all: beyond
// it nothing is promised, and One answers nil rather than run out of memory.
const most = (1<<31 - 1) / 8

// Perm is a permutation: where each goes, and who goes to each. No call
// changes either, so permutations may share them.
type Perm struct {
	to   []int
	back []int
}

// Of answers the permutation in which i goes to l[i].
func Of(l []int) (*Perm, api.Errno) {
	back := make([]int, len(l))
	for i := range back {
		back[i] = -1
	}
	for i, to := range l {
		if to < 0 || to >= len(l) || back[to] != -1 {
			return nil, api.ErrPerm
		}
		back[to] = i
	}
	return &Perm{to: slices.Clone(l), back: back}, api.OK
}

// One answers the permutation of n in which each goes to itself.
func One(n int) *Perm {
	if n > most {
		return nil
	}
	to := make([]int, max(n, 0))
	for i := range to {
		to[i] = i
	}
	return &Perm{to: to, back: to}
}

// Len is how many numbers there are.
func (p *Perm) Len() int {
	if p == nil {
		return 0
	}
	return len(p.to)
}

// At is where i goes, or -1.
func (p *Perm) At(i int) int {
	if i < 0 || i >= p.Len() {
		return -1
	}
	return p.to[i]
}

// Back is who goes to i, or -1.
func (p *Perm) Back(i int) int {
	if i < 0 || i >= p.Len() {
		return -1
	}
	return p.back[i]
}

// List answers where each goes.
func (p *Perm) List() []int {
	if p == nil {
		return nil
	}
	return slices.Clone(p.to)
}

// Inverse answers the way back.
func (p *Perm) Inverse() *Perm {
	if p == nil {
		return nil
	}
	return &Perm{to: p.back, back: p.to}
}

// Then answers first p, then q.
func Then(p, q *Perm) (*Perm, api.Errno) {
	if p == nil || q == nil {
		return nil, api.ErrNone
	}
	n := p.Len()
	if n != q.Len() {
		return nil, api.ErrRange
	}
	to, back := make([]int, n), make([]int, n)
	for i := range to {
		to[i] = q.to[p.to[i]]
		back[i] = p.back[q.back[i]]
	}
	return &Perm{to: to, back: back}, api.OK
}

// Orbit answers i, where it goes, and so on, till i comes again.
func (p *Perm) Orbit(i int) []int {
	if i < 0 || i >= p.Len() {
		return nil
	}
	orbit := []int{i}
	for at := p.to[i]; at != i; at = p.to[at] {
		orbit = append(orbit, at)
	}
	return orbit
}

// Orbits answers all orbits, each from its least number on, by those.
func (p *Perm) Orbits() [][]int {
	var orbits [][]int
	met := make([]bool, p.Len())
	for i := range met {
		if met[i] {
			continue
		}
		orbit := p.Orbit(i)
		for _, at := range orbit {
			met[at] = true
		}
		orbits = append(orbits, orbit)
	}
	return orbits
}

// Names answers of each number the place of its orbit in Orbits.
func (p *Perm) Names() []int {
	names := make([]int, p.Len())
	for name, orbit := range p.Orbits() {
		for _, i := range orbit {
			names[i] = name
		}
	}
	return names
}

// Same tells whether each goes to the same; nil has none.
func Same(p, q *Perm) bool {
	if p.Len() != q.Len() {
		return false
	}
	return p.Len() == 0 || slices.Equal(p.to, q.to)
}

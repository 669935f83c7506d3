package word_test

import (
	"fmt"
	"math/rand/v2"
	"testing"

	"parquetry/api"
	"parquetry/canon"
	"parquetry/dart"
	"parquetry/dual"
	"parquetry/euler"
	"parquetry/grow"
	"parquetry/perm"
)

// made answers the map of sigma and root, that are right.
func made(t *testing.T, sigma []int, root, lone int) *dart.Map {
	t.Helper()
	m, e := dart.New(sigma, root, lone)
	if e != api.OK || m == nil {
		t.Fatalf("New of %d darts, %d, %d: %v", len(sigma), root, lone, e)
	}
	return m
}

// triangle answers the least triangulation.
func triangle(t *testing.T) *dart.Map {
	t.Helper()
	return made(t, []int{5, 2, 1, 4, 3, 0}, 0, 0)
}

// right answers what a call answered without an error.
func right(t *testing.T, m *dart.Map, e api.Errno) *dart.Map {
	t.Helper()
	if e != api.OK {
		t.Fatal(e)
	}
	return m
}

// rooted answers m with the root d, that there is.
func rooted(t *testing.T, m *dart.Map, d int) *dart.Map {
	t.Helper()
	m, e := m.Rooted(d)
	return right(t, m, e)
}

// flipped answers m with d's edge flipped, if that is a triangulation; else m.
func flipped(m *dart.Map, d int) *dart.Map {
	if other, e := grow.Flip(m, d); e == api.OK && euler.Triangulation(other) {
		return other
	}
	return m
}

// triangulations answers all rooted ones of n vertices, by their canonical
// names: those that come of one another by flips.
func triangulations(t *testing.T, n int) []*dart.Map {
	t.Helper()
	var all []*dart.Map
	met := map[string]int{}
	add := func(m *dart.Map) {
		named, _, _ := canon.Canon(m)
		key := fmt.Sprint(named.List())
		if met[key]++; met[key] == 1 {
			all = append(all, named)
		}
	}
	add(faced(t, nested(n, func(int) int { return 0 })...))
	for i := 0; i < len(all); i++ {
		for d := range all[i].Darts() {
			add(rooted(t, all[i], d))
			add(flipped(all[i], d))
		}
	}
	return all
}

// renamed answers m with other names of its darts, and the same root.
func renamed(t *testing.T, r *rand.Rand, m *dart.Map) *dart.Map {
	t.Helper()
	l := make([]int, m.Darts())
	for e, to := range r.Perm(m.Edges()) {
		turn := r.IntN(2)
		l[2*e], l[2*e+1] = 2*to+turn, 2*to+1-turn
	}
	p, _ := perm.Of(l)
	other, e := dual.Relabel(m, p)
	return right(t, other, e)
}

// random answers some triangulation of n vertices, far from stacked ones.
func random(t *testing.T, r *rand.Rand, n int) *dart.Map {
	t.Helper()
	m := faced(t, nested(n, r.IntN)...)
	for range 3 * n {
		m = flipped(m, r.IntN(m.Darts()))
	}
	return rooted(t, renamed(t, r, m), r.IntN(m.Darts()))
}

// faced answers the simple map whose faces go along these vertices; its root
// is the dart from 0 to 1.
func faced(t *testing.T, faces ...[]int) *dart.Map {
	t.Helper()
	darts := map[[2]int]int{{0, 1}: 0, {1, 0}: 1}
	for _, face := range faces {
		for i, u := range face {
			v := face[(i+1)%len(face)]
			if _, ok := darts[[2]int{u, v}]; !ok {
				n := len(darts)
				darts[[2]int{u, v}], darts[[2]int{v, u}] = n, n+1
			}
		}
	}
	sigma := make([]int, len(darts))
	for _, face := range faces {
		for i, u := range face {
			v, w := face[(i+1)%len(face)], face[(i+2)%len(face)]
			sigma[darts[[2]int{v, u}]] = darts[[2]int{v, w}]
		}
	}
	return made(t, sigma, 0, 0)
}

// nested answers triangles in which n vertices were put, one after the other,
// each within the face that pick tells of so many.
func nested(n int, pick func(faces int) int) [][]int {
	faces := [][]int{{0, 1, 2}, {2, 1, 0}}
	for v := 3; v < n; v++ {
		i := pick(len(faces))
		a, b, c := faces[i][0], faces[i][1], faces[i][2]
		faces[i] = []int{a, b, v}
		faces = append(faces, []int{b, c, v}, []int{c, a, v})
	}
	return faces
}

// wrong are maps that are no triangulations.
func wrong(t *testing.T) map[string]*dart.Map {
	t.Helper()
	var torus [][]int
	for i := range 7 {
		torus = append(torus, []int{i, (i + 1) % 7, (i + 3) % 7}, []int{i, (i + 3) % 7, (i + 2) % 7})
	}
	return map[string]*dart.Map{
		"nothing":                      made(t, nil, -1, 0),
		"three lone vertices":          made(t, nil, -1, 3),
		"an edge":                      grow.Seed(),
		"a loop":                       made(t, []int{1, 0}, 0, 0),
		"a path of three vertices":     made(t, []int{0, 2, 1, 3}, 0, 0),
		"a square":                     faced(t, []int{0, 1, 2, 3}, []int{3, 2, 1, 0}),
		"a triangle and a lone vertex": made(t, triangle(t).List(), 0, 1),
		"triangles with a loop":        made(t, []int{2, 4, 1, 3, 0, 5}, 0, 0),
		"triangles on a torus":         faced(t, torus...),
	}
}

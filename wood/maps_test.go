package wood_test

import (
	"fmt"
	"math/rand/v2"
	"slices"
	"testing"

	"parquetry/api"
	"parquetry/canon"
	"parquetry/dart"
	"parquetry/dual"
	"parquetry/euler"
	"parquetry/perm"
)

// made answers the map of sigma and root, that are right.
func made(t *testing.T, sigma []int, root, lone int) *dart.Map {
	t.Helper()
	m, e := dart.New(sigma, root, lone)
	if e != api.OK || m == nil {
		t.Fatalf("New of %d darts, %d, %d: %v", len(sigma), root, lone, e)
	}
	return m
}

// faced answers the simple map whose faces go along these vertices, and the
// darts from vertex to vertex; its root is that from 0 to 1.
func faced(t *testing.T, faces ...[]int) (*dart.Map, map[[2]int]int) {
	t.Helper()
	darts := map[[2]int]int{{0, 1}: 0, {1, 0}: 1}
	for _, face := range faces {
		for i, u := range face {
			v := face[(i+1)%len(face)]
			if _, ok := darts[[2]int{u, v}]; !ok {
				n := len(darts)
				darts[[2]int{u, v}], darts[[2]int{v, u}] = n, n+1
			}
		}
	}
	sigma := make([]int, len(darts))
	for _, face := range faces {
		for i, u := range face {
			v, w := face[(i+1)%len(face)], face[(i+2)%len(face)]
			sigma[darts[[2]int{v, u}]] = darts[[2]int{v, w}]
		}
	}
	return made(t, sigma, 0, 0), darts
}

// mapOf is the map of these faces alone.
func mapOf(t *testing.T, faces ...[]int) *dart.Map {
	t.Helper()
	m, _ := faced(t, faces...)
	return m
}

// stacked answers triangles in which n vertices were put, one after the other,
// each within the face that pick tells of so many.
func stacked(n int, pick func(faces int) int) [][]int {
	faces := [][]int{{0, 1, 2}, {2, 1, 0}}
	for v := 3; v < n; v++ {
		i := pick(len(faces))
		a, b, c := faces[i][0], faces[i][1], faces[i][2]
		faces[i] = []int{a, b, v}
		faces = append(faces, []int{b, c, v}, []int{c, a, v})
	}
	return faces
}

// wheel answers the faces of n vertices of which all but two are a round, and
// those two, the last ones, joined to each of the round.
func wheel(n int) [][]int {
	var faces [][]int
	for i := range n - 2 {
		j := (i + 1) % (n - 2)
		faces = append(faces, []int{i, j, n - 2}, []int{j, i, n - 1})
	}
	return faces
}

// rooted answers m with the root d, that there is.
func rooted(t *testing.T, m *dart.Map, d int) *dart.Map {
	t.Helper()
	m, e := m.Rooted(d)
	if e != api.OK {
		t.Fatalf("Rooted of %d: %v", d, e)
	}
	return m
}

// flipped answers m with the edge e between the other ends of the triangles
// beside it.
func flipped(t *testing.T, m *dart.Map, e int) *dart.Map {
	t.Helper()
	sigma := m.List()
	for _, d := range []int{2 * e, 2*e + 1} {
		sigma[slices.Index(sigma, d)] = sigma[d]
		beyond := m.Phi(m.Phi(d))
		sigma[slices.Index(sigma, beyond)], sigma[d] = d, beyond
	}
	return made(t, sigma, m.Root(), 0)
}

// triangulations answers all rooted ones of n vertices, by their canonical
// names: those that come of one another by flips.
func triangulations(t *testing.T, n int) []*dart.Map {
	t.Helper()
	var all []*dart.Map
	met := map[string]int{}
	add := func(m *dart.Map) {
		named, _, _ := canon.Canon(m)
		key := fmt.Sprint(named.List())
		if met[key]++; met[key] == 1 {
			all = append(all, named)
		}
	}
	add(mapOf(t, stacked(n, func(int) int { return 0 })...))
	for i := 0; i < len(all); i++ {
		for d := range all[i].Darts() {
			add(rooted(t, all[i], d))
		}
		for e := range all[i].Edges() {
			if n == 3 {
				continue
			}
			if m := flipped(t, all[i], e); euler.Triangulation(m) {
				add(m)
			}
		}
	}
	return all
}

// renamed answers m with other names of its darts, and the same root.
func renamed(t *testing.T, r *rand.Rand, m *dart.Map) *dart.Map {
	t.Helper()
	l := make([]int, m.Darts())
	for e, to := range r.Perm(m.Edges()) {
		turn := r.IntN(2)
		l[2*e], l[2*e+1] = 2*to+turn, 2*to+1-turn
	}
	p, _ := perm.Of(l)
	m, e := dual.Relabel(m, p)
	if e != api.OK {
		t.Fatal(e)
	}
	return m
}

// random answers some triangulation of n vertices, far from stacked ones.
func random(t *testing.T, r *rand.Rand, n int) *dart.Map {
	t.Helper()
	m := mapOf(t, stacked(n, r.IntN)...)
	for range 2 * n {
		if other := flipped(t, m, r.IntN(m.Edges())); euler.Triangulation(other) {
			m = other
		}
	}
	return rooted(t, renamed(t, r, m), r.IntN(m.Darts()))
}

// wrong are maps that are no triangulations.
func wrong(t *testing.T) map[string]*dart.Map {
	t.Helper()
	var torus [][]int
	for i := range 7 {
		torus = append(torus, []int{i, (i + 1) % 7, (i + 3) % 7}, []int{i, (i + 3) % 7, (i + 2) % 7})
	}
	triangle := mapOf(t, stacked(3, nil)...)
	return map[string]*dart.Map{
		"nothing":                      made(t, nil, -1, 0),
		"three lone vertices":          made(t, nil, -1, 3),
		"an edge":                      made(t, []int{0, 1}, 0, 0),
		"a loop":                       made(t, []int{1, 0}, 0, 0),
		"a square":                     mapOf(t, []int{0, 1, 2, 3}, []int{3, 2, 1, 0}),
		"a triangle and a lone vertex": made(t, triangle.List(), 0, 1),
		"triangles with a loop":        made(t, []int{2, 4, 1, 3, 0, 5}, 0, 0),
		"triangles on a torus":         mapOf(t, torus...),
	}
}

package samples

import (
	"slices"
	"strconv"

	"parquetry/api"
	"parquetry/canon"
	"parquetry/dart"
	"parquetry/euler"
)

// Darts answers the darts from vertex to vertex of a simple map whose faces
// go along these; that from 0 to 1 is the dart 0.
func Darts(faces [][]int) map[[2]int]int {
	darts := map[[2]int]int{{0, 1}: 0, {1, 0}: 1}
	for _, face := range faces {
		for i, u := range face {
			v := face[(i+1)%len(face)]
			if _, ok := darts[[2]int{u, v}]; !ok {
				n := len(darts)
				darts[[2]int{u, v}], darts[[2]int{v, u}] = n, n+1
			}
		}
	}
	return darts
}

// Faced answers the simple map whose faces go along these vertices, each the
// darts from one to the next; its root goes from the vertex 0 to the vertex 1.
func Faced(t Test, faces ...[]int) *dart.Map {
	t.Helper()
	darts := Darts(faces)
	sigma := make([]int, len(darts))
	for _, face := range faces {
		for i, u := range face {
			v, w := face[(i+1)%len(face)], face[(i+2)%len(face)]
			sigma[darts[[2]int{v, u}]] = darts[[2]int{v, w}]
		}
	}
	return Map(t, sigma, 0, 0)
}

// Stacked answers the faces of triangles in which n vertices were put, one
// behind the other, each within the face that pick tells of so many.
func Stacked(n int, pick func(n int) int) [][]int {
	faces := [][]int{{0, 1, 2}, {2, 1, 0}}
	for v := 3; v < n; v++ {
		i := pick(len(faces))
		a, b, c := faces[i][0], faces[i][1], faces[i][2]
		faces[i] = []int{a, b, v}
		faces = append(faces, []int{b, c, v}, []int{c, a, v})
	}
	return faces
}

// Triangle answers the least triangulation, of three vertices.
func Triangle(t Test) *dart.Map {
	t.Helper()
	return Faced(t, Stacked(3, nil)...)
}

// Wheel answers the faces of n vertices of which all but two are a round, and
// those two, the last ones, are joined to each of the round: to its right the
// one, to its left the other.
func Wheel(n int) [][]int {
	var faces [][]int
	for i := range n - 2 {
		j := (i + 1) % (n - 2)
		faces = append(faces, []int{i, j, n - 2}, []int{j, i, n - 1})
	}
	return faces
}

// Flipped answers m with the edge e, that is between two triangles, between
// their other ends, if that is a triangulation; else m.
func Flipped(t Test, m *dart.Map, e int) *dart.Map {
	t.Helper()
	if m.Edges() == 3 {
		return m
	}
	sigma := m.List()
	for _, d := range []int{2 * e, 2*e + 1} {
		sigma[slices.Index(sigma, d)] = sigma[d]
		beyond := m.Phi(m.Phi(d))
		sigma[slices.Index(sigma, beyond)], sigma[d] = d, beyond
	}
	if other := Map(t, sigma, m.Root(), 0); euler.Triangulation(other) {
		return other
	}
	return m
}

// key is a list as a text.
func key(l []int) string {
	var p []byte
	for _, x := range l {
		p = append(strconv.AppendInt(p, int64(x), 10), ' ')
	}
	return string(p)
}

// Triangulations answers all rooted ones of n vertices, by their canonical
// names: those that come of one another by flips.
func Triangulations(t Test, n int) []*dart.Map {
	t.Helper()
	var all []*dart.Map
	met := map[string]int{}
	add := func(m *dart.Map) {
		named, _, err := canon.Canon(m)
		if err != api.OK {
			t.Fatalf("Canon of a triangulation: %v", err)
		}
		name := key(named.List())
		if met[name]++; met[name] == 1 {
			all = append(all, named)
		}
	}
	add(Faced(t, Stacked(n, func(int) int { return 0 })...))
	for i := 0; i < len(all); i++ {
		for d := range all[i].Darts() {
			add(Rooted(t, all[i], d))
		}
		for e := range all[i].Edges() {
			add(Flipped(t, all[i], e))
		}
	}
	return all
}

// Triangulation answers some triangulation of n vertices, far from stacked
// ones.
func Triangulation(t Test, pick func(n int) int, n int) *dart.Map {
	t.Helper()
	m := Faced(t, Stacked(n, pick)...)
	for range 2 * n {
		m = Flipped(t, m, pick(m.Edges()))
	}
	return Rooted(t, Renamed(t, pick, m), pick(m.Darts()))
}

// Torus answers the faces of seven vertices, each joined to all others, on a
// torus.
func Torus() [][]int {
	var faces [][]int
	for i := range 7 {
		faces = append(faces, []int{i, (i + 1) % 7, (i + 3) % 7}, []int{i, (i + 3) % 7, (i + 2) % 7})
	}
	return faces
}

// NoTriangulations are maps that are none, and what they are.
func NoTriangulations(t Test) map[string]*dart.Map {
	t.Helper()
	return map[string]*dart.Map{
		"nothing":                        Map(t, nil, -1, 0),
		"a lone vertex":                  Map(t, nil, -1, 1),
		"three lone vertices":            Map(t, nil, -1, 3),
		"an edge":                        Turned(t, 0, 0, []int{0}, []int{1}),
		"a loop":                         Turned(t, 0, 0, []int{0, 1}),
		"a path of three vertices":       Turned(t, 0, 0, []int{0}, []int{1, 2}, []int{3}),
		"a square":                       Faced(t, []int{0, 1, 2, 3}, []int{3, 2, 1, 0}),
		"a square with a chord":          Faced(t, []int{0, 1, 2}, []int{0, 2, 3}, []int{3, 2, 1, 0}),
		"a triangle and a lone vertex":   Map(t, Triangle(t).List(), 0, 1),
		"two triangles":                  Turned(t, 0, 0, []int{0, 5}, []int{1, 2}, []int{3, 4}, []int{6, 11}, []int{7, 8}, []int{9, 10}),
		"triangles, one edge doubled":    Turned(t, 0, 0, []int{0, 4, 2, 8}, []int{1, 10, 3, 6}, []int{5, 7}, []int{9, 11}),
		"triangles with a loop between":  Turned(t, 0, 0, []int{0, 2, 1, 4}, []int{3}, []int{5}),
		"triangles on a torus":           Faced(t, Torus()...),
		"triangles of a torus's one end": Turned(t, 0, 0, []int{0, 2, 4, 1, 3, 5}),
	}
}

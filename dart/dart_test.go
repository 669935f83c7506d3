package dart_test

import (
	"math"
	"math/rand/v2"
	"slices"
	"sync"
	"testing"

	"parquetry/api"
	"parquetry/dart"
	"parquetry/perm"
	"parquetry/samples"
)

// sigmas answers all of up to six darts, and some of more.
func sigmas() [][]int {
	var all [][]int
	for n := 0; n <= 6; n += 2 {
		all = append(all, samples.Perms(n)...)
	}
	r := rand.New(rand.NewPCG(5, 6))
	for _, n := range []int{8, 10, 30, 100} {
		for range 5 {
			all = append(all, r.Perm(n))
		}
	}
	return all
}

// orbit is i, where l takes it, and so on, till i comes again.
func orbit(l []int, i int) []int {
	var o []int
	for at := i; len(o) == 0 || at != i; at = l[at] {
		o = append(o, at)
	}
	return o
}

// orbits are all orbits, by their least numbers.
func orbits(l []int) [][]int {
	var all [][]int
	for i := range l {
		if o := orbit(l, i); slices.Min(o) == i {
			all = append(all, o)
		}
	}
	return all
}

// place is that of the orbit that has d.
func place(all [][]int, d int) int {
	return slices.IndexFunc(all, func(o []int) bool { return slices.Contains(o, d) })
}

// none are darts that a map of n darts hasn't.
func none(n int) []int { return []int{math.MinInt, -2, -1, n, n + 1, math.MaxInt} }

// check holds all that m tells against Sigma, the root and the lone ones.
func check(t *testing.T, m *dart.Map, sigma []int, root, lone int) {
	t.Helper()
	n := len(sigma)
	if m.Darts() != n || m.Edges() != n/2 || m.Root() != root || m.Lone() != lone || !slices.Equal(m.List(), sigma) {
		t.Fatalf("of %v, %d, %d: Darts %d, Edges %d, Root %d, Lone %d, List %v", sigma, root, lone, m.Darts(), m.Edges(), m.Root(), m.Lone(), m.List())
	}
	phi := make([]int, n)
	for d := range phi {
		phi[d] = sigma[samples.Mate(d)]
	}
	vertices, faces := orbits(sigma), orbits(phi)
	if m.Vertices() != len(vertices)+lone || m.Borders() != len(faces) {
		t.Fatalf("of %v and %d: Vertices %d, Borders %d", sigma, lone, m.Vertices(), m.Borders())
	}
	for d := range n {
		if m.Sigma(d) != sigma[d] || m.Back(sigma[d]) != d || m.Mate(d) != samples.Mate(d) || m.Phi(d) != phi[d] {
			t.Fatalf("of %v: %d has Sigma %d, Mate %d, Phi %d; %d has Back %d", sigma, d, m.Sigma(d), m.Mate(d), m.Phi(d), sigma[d], m.Back(sigma[d]))
		}
		if m.Vertex(d) != place(vertices, d) || m.Face(d) != place(faces, d) {
			t.Fatalf("of %v: %d has Vertex %d, Face %d", sigma, d, m.Vertex(d), m.Face(d))
		}
		if !slices.Equal(m.Around(d), orbit(sigma, d)) || !slices.Equal(m.Border(d), orbit(phi, d)) {
			t.Fatalf("of %v: %d has Around %v, Border %v", sigma, d, m.Around(d), m.Border(d))
		}
	}
	checkDegrees(t, m, vertices, lone)
	checkNone(t, m, n)
}

// checkDegrees holds Degree against the vertices with darts, and lone ones.
func checkDegrees(t *testing.T, m *dart.Map, vertices [][]int, lone int) {
	t.Helper()
	for v, o := range vertices {
		if m.Degree(v) != len(o) {
			t.Fatalf("of %v: Degree(%d) %d", m.List(), v, m.Degree(v))
		}
	}
	for v := len(vertices); v < len(vertices)+lone; v++ {
		if m.Degree(v) != 0 {
			t.Fatalf("of %v and %d: Degree(%d) %d", m.List(), lone, v, m.Degree(v))
		}
	}
	for _, v := range none(len(vertices) + lone) {
		if m.Degree(v) != -1 {
			t.Fatalf("of %v and %d: Degree(%d) %d", m.List(), lone, v, m.Degree(v))
		}
	}
}

// checkNone asks for darts that m, that has n, hasn't.
func checkNone(t *testing.T, m *dart.Map, n int) {
	t.Helper()
	asks := []func(int) int{m.Sigma, m.Back, m.Mate, m.Phi, m.Vertex, m.Face}
	for _, d := range none(n) {
		for i, ask := range asks {
			if got := ask(d); got != -1 {
				t.Fatalf("question %d of the dart %d of %d: %d", i, d, n, got)
			}
		}
		if len(m.Around(d)) != 0 || len(m.Border(d)) != 0 {
			t.Fatalf("of the dart %d of %d: Around %v, Border %v", d, n, m.Around(d), m.Border(d))
		}
	}
}

func TestP6_1And3(t *testing.T) {
	for i, sigma := range sigmas() {
		root, lone := -1, i%4
		if len(sigma) > 0 {
			root = i % len(sigma)
		}
		check(t, samples.Map(t, sigma, root, lone), sigma, root, lone)
	}
	for _, lone := range []int{0, 1, 5} {
		check(t, samples.Map(t, nil, -1, lone), nil, -1, lone)
	}
}

func TestP6_2Right(t *testing.T) {
	for _, sigma := range sigmas() {
		roots := []int{-1}
		if n := len(sigma); n > 0 {
			roots = []int{0, n / 2, n - 1}
		}
		for _, root := range roots {
			for _, lone := range []int{0, 1, api.MaxLone} {
				m := samples.Map(t, sigma, root, lone)
				if m.Root() != root || m.Lone() != lone || !slices.Equal(m.List(), sigma) {
					t.Fatalf("of %v, %d, %d: %v, %d, %d", sigma, root, lone, m.List(), m.Root(), m.Lone())
				}
			}
		}
	}
}

// one answers the list in which each of n goes to itself.
func one(n int) []int {
	l := make([]int, n)
	for i := range l {
		l[i] = i
	}
	return l
}

func TestP6_2Errors(t *testing.T) {
	const most = 2 * api.MaxEdges
	cases := []struct {
		name  string
		sigma []int
		root  int
		lone  int
		want  api.Errno
	}{
		{"twice the same", []int{0, 0}, 0, 0, api.ErrPerm},
		{"too great", []int{0, 2}, 0, 0, api.ErrPerm},
		{"below 0", []int{-1, 0}, 0, 0, api.ErrPerm},
		{"far off", []int{math.MaxInt, math.MinInt}, 0, 0, api.ErrPerm},
		{"one dart", []int{0}, 0, 0, api.ErrPerm},
		{"three darts", []int{1, 2, 0}, 0, 0, api.ErrPerm},
		{"three darts, and no root", []int{1, 2, 0}, 3, -1, api.ErrPerm},
		{"no permutation, and no root", []int{1, 1}, -1, -1, api.ErrPerm},
		{"an odd length, and too large", one(most + 1), 0, 0, api.ErrPerm},
		{"no permutation, and too many lone", []int{1, 1}, 0, api.MaxLone + 1, api.ErrPerm},
		{"root -1", []int{1, 0}, -1, 0, api.ErrRoot},
		{"root too great", []int{1, 0}, 2, 0, api.ErrRoot},
		{"root far off", []int{1, 0}, math.MinInt, 0, api.ErrRoot},
		{"a root without darts", nil, 0, 0, api.ErrRoot},
		{"root -2 without darts", []int{}, -2, 0, api.ErrRoot},
		{"lone below 0", []int{1, 0}, 1, -1, api.ErrRoot},
		{"lone below 0 without darts", nil, -1, math.MinInt, api.ErrRoot},
		{"no root, and too many lone", []int{1, 0}, 2, api.MaxLone + 1, api.ErrRoot},
		{"no root, and too large", one(most + 2), most + 2, 0, api.ErrRoot},
		{"lone below 0, and too large", one(most + 2), 0, -1, api.ErrRoot},
		{"too large", one(most + 2), 0, 0, api.ErrLarge},
		{"too many lone", []int{1, 0}, 0, api.MaxLone + 1, api.ErrLarge},
		{"too many lone without darts", nil, -1, math.MaxInt, api.ErrLarge},
		{"as large as can be", one(most), most - 1, api.MaxLone, api.OK},
	}
	for _, c := range cases {
		m, e := dart.New(c.sigma, c.root, c.lone)
		if e != c.want || (m == nil) != (e != api.OK) {
			t.Errorf("%s: %v, want %v", c.name, e, c.want)
		}
	}
}

func TestP6_2Large(t *testing.T) {
	const n = 2 * api.MaxEdges
	r := rand.New(rand.NewPCG(7, 8))
	sigma := r.Perm(n)
	m := samples.Map(t, sigma, 5, 3)
	p, e := perm.Of(sigma)
	if e != api.OK {
		t.Fatal(e)
	}
	if m.Darts() != n || m.Edges() != api.MaxEdges || m.Vertices() != len(p.Orbits())+3 || !slices.Equal(m.List(), sigma) {
		t.Fatal(m.Darts(), m.Edges(), m.Vertices())
	}
	for d, name := range p.Names() {
		if m.Vertex(d) != name || m.Phi(d) != sigma[samples.Mate(d)] || m.Face(m.Phi(d)) != m.Face(d) {
			t.Fatal(d, m.Vertex(d), name)
		}
	}
}

func TestP6_2Memory(t *testing.T) {
	wide := []int{1, 2, 3, 0, 77}
	sigma := wide[:4]
	m := samples.Map(t, sigma, 2, 1)
	if !slices.Equal(wide, []int{1, 2, 3, 0, 77}) {
		t.Fatal(wide)
	}
	for i := range wide {
		wide[i] = 9
	}
	want := []int{1, 2, 3, 0}
	check(t, m, want, 2, 1)
	for range 2 {
		for _, l := range [][]int{m.List(), m.Around(0), m.Border(0), m.Border(1)} {
			for i := range l {
				l[i] = -7
			}
			_ = append(l, -7)
		}
		check(t, m, want, 2, 1)
	}
}

func TestP6_3Rooted(t *testing.T) {
	for i, sigma := range sigmas() {
		if len(sigma) == 0 {
			continue
		}
		root, lone := i%len(sigma), i%3
		m := samples.Map(t, sigma, root, lone)
		for _, d := range []int{0, root, len(sigma) - 1} {
			r, e := m.Rooted(d)
			if e != api.OK {
				t.Fatalf("of %v: Rooted(%d): %v", sigma, d, e)
			}
			check(t, r, sigma, d, lone)
			check(t, m, sigma, root, lone)
			if dart.Same(m, r) != (d == root) {
				t.Fatalf("of %v: the roots %d and %d, Same %v", sigma, root, d, dart.Same(m, r))
			}
		}
		for _, d := range none(len(sigma)) {
			if r, e := m.Rooted(d); r != nil || e != api.ErrRoot {
				t.Fatalf("of %v: Rooted(%d): %v", sigma, d, e)
			}
		}
	}
	for _, d := range none(0) {
		if r, e := samples.Map(t, nil, -1, 2).Rooted(d); r != nil || e != api.ErrRoot {
			t.Fatalf("without darts: Rooted(%d): %v", d, e)
		}
	}
}

func TestP6_3Same(t *testing.T) {
	maps := []*dart.Map{
		nil,
		samples.Map(t, nil, -1, 0),
		samples.Map(t, nil, -1, 1),
		samples.Map(t, []int{0, 1}, 0, 0),
		samples.Map(t, []int{0, 1}, 1, 0),
		samples.Map(t, []int{0, 1}, 0, 1),
		samples.Map(t, []int{1, 0}, 0, 0),
		samples.Map(t, []int{1, 0, 2, 3}, 0, 0),
		samples.Map(t, []int{1, 2, 3, 0}, 0, 0),
		samples.Map(t, []int{3, 0, 1, 2}, 0, 0),
	}
	for i, a := range maps {
		for j, b := range maps {
			if dart.Same(a, b) != (i == j) {
				t.Fatalf("%d and %d: %v", i, j, dart.Same(a, b))
			}
		}
		if a != nil && !dart.Same(a, samples.Map(t, a.List(), a.Root(), a.Lone())) {
			t.Fatalf("%d and the same again", i)
		}
	}
}

func TestP6_3Nil(t *testing.T) {
	var m *dart.Map
	if m.Edges() != 0 || m.Darts() != 0 || m.Lone() != 0 || m.Vertices() != 0 || m.Borders() != 0 || m.Root() != -1 || m.List() != nil {
		t.Fatal(m.Edges(), m.Darts(), m.Lone(), m.Vertices(), m.Borders(), m.Root(), m.List())
	}
	for _, d := range []int{-1, 0, 1} {
		if m.Degree(d) != -1 || m.Around(d) != nil || m.Border(d) != nil {
			t.Fatal(m.Degree(d), m.Around(d), m.Border(d))
		}
		if r, e := m.Rooted(d); r != nil || e != api.ErrNone {
			t.Fatal(e)
		}
	}
	checkNone(t, m, 0)
}

func TestP6_3Several(t *testing.T) {
	sigma := []int{2, 1, 4, 3, 0, 5}
	m := samples.Map(t, sigma, 0, 1)
	const workers = 8
	wrongs := [workers]int{}
	var all sync.WaitGroup
	for w := range workers {
		all.Go(func() {
			for d := range sigma {
				r, e := m.Rooted(d)
				if e != api.OK || r.Root() != d || !slices.Equal(r.List(), m.List()) {
					wrongs[w]++
				}
				if m.Face(d) != r.Face(d) || m.Degree(m.Vertex(d)) != len(m.Around(d)) || !slices.Equal(m.Border(d), r.Border(d)) {
					wrongs[w]++
				}
			}
		})
	}
	all.Wait()
	if wrongs != [workers]int{} {
		t.Fatal(wrongs)
	}
}

func TestExamples(t *testing.T) {
	edge := samples.Map(t, []int{0, 1}, 0, 0)
	if edge.Vertices() != 2 || edge.Borders() != 1 {
		t.Fatal(edge.Vertices(), edge.Borders())
	}
	loop := samples.Map(t, []int{1, 0}, 0, 0)
	if loop.Vertices() != 1 || loop.Borders() != 2 {
		t.Fatal(loop.Vertices(), loop.Borders())
	}
}

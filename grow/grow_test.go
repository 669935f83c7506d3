package grow_test

import (
	"math"
	"math/rand/v2"
	"slices"
	"testing"

	"parquetry/api"
	"parquetry/dart"
	"parquetry/dual"
	"parquetry/euler"
	"parquetry/grow"
	"parquetry/samples"
)

// triangle and tetrahedron are where triangulations begin.
var (
	triangle    = []int{5, 2, 1, 4, 3, 0}
	tetrahedron = []int{5, 8, 1, 10, 3, 6, 0, 11, 2, 7, 4, 9}
)

// maps answers all of up to six darts, and some of more, each with some root.
func maps(t *testing.T) []*dart.Map {
	t.Helper()
	all := []*dart.Map{samples.Map(t, triangle, 3, 0), samples.Map(t, tetrahedron, 7, 2)}
	for n := 2; n <= 6; n += 2 {
		for i, sigma := range samples.Perms(n) {
			all = append(all, samples.Map(t, sigma, i%n, i%3))
		}
	}
	r := rand.New(rand.NewPCG(111, 112))
	for _, n := range []int{8, 10, 24, 60} {
		for range 5 {
			all = append(all, samples.Map(t, r.Perm(n), r.IntN(n), r.IntN(4)), anyPlanar(t, r, n/2))
		}
	}
	return all
}

// anyPlanar answers some planar map of one part, of so many edges, put
// together by the model alone.
func anyPlanar(t *testing.T, r *rand.Rand, edges int) *dart.Map {
	t.Helper()
	x := model{{0}, {1}}
	for n := 2; n < 2*edges; n += 2 {
		d := r.IntN(n)
		if r.IntN(3) == 0 {
			x = x.leaf(d)
			continue
		}
		var same []int
		for e := range n {
			if slices.Contains(x.border(x.next(d)), x.next(e)) {
				same = append(same, e)
			}
		}
		x = x.chord(d, same[r.IntN(len(same))])
	}
	return samples.Map(t, x.sigma(), r.IntN(2*edges), 0)
}

// model is a map as its vertices' darts, counter-clockwise: edges grow by
// putting darts into these lists.
type model [][]int

// modelOf answers that of m.
func modelOf(m *dart.Map) model {
	var x model
	for d := range m.Darts() {
		around := m.Around(d)
		if slices.Min(around) == d {
			x = append(x, around)
		}
	}
	return x
}

// darts is how many there are.
func (x model) darts() int { return len(slices.Concat(x...)) }

// sigma answers where Sigma goes.
func (x model) sigma() []int {
	sigma := make([]int, x.darts())
	for d := range sigma {
		sigma[d] = x.next(d)
	}
	return sigma
}

// next is the dart behind d around its vertex.
func (x model) next(d int) int {
	for _, v := range x {
		if i := slices.Index(v, d); i >= 0 {
			return v[(i+1)%len(v)]
		}
	}
	return -1
}

// border answers the darts of d's face, from d on.
func (x model) border(d int) []int {
	l := []int{d}
	for at := x.next(samples.Mate(d)); at != d; at = x.next(samples.Mate(at)) {
		l = append(l, at)
	}
	return l
}

// with answers the model with d put by so many places behind at.
func (x model) with(d, at, places int) model {
	var y model
	for _, v := range x {
		if i := slices.Index(v, at); i >= 0 {
			v = slices.Insert(slices.Clone(v), i+places, d)
		}
		y = append(y, v)
	}
	return y
}

// behind and ahead answer the model with d right behind at, or right ahead.
func (x model) behind(d, at int) model { return x.with(d, at, 1) }
func (x model) ahead(d, at int) model  { return x.with(d, at, 0) }

// without answers the model without d.
func (x model) without(d int) model {
	var y model
	for _, v := range x {
		y = append(y, slices.DeleteFunc(slices.Clone(v), func(at int) bool { return at == d }))
	}
	return y
}

func (x model) leaf(d int) model {
	n := x.darts()
	return append(x.behind(n, d), []int{n + 1})
}

func (x model) chord(d, e int) model {
	n := x.darts()
	if d == e {
		return x.behind(n+1, d).behind(n, d)
	}
	return x.behind(n, d).behind(n+1, e)
}

func (x model) split(d int) model {
	n, mate := x.darts(), samples.Mate(d)
	return append(x.behind(n+1, mate).without(mate), []int{n, mate})
}

func (x model) star(d int) model {
	var hub []int
	y := x
	for _, at := range x.border(d) {
		n := x.darts() + 2*len(hub)
		y = y.ahead(n, at)
		hub = append([]int{n + 1}, hub...)
	}
	return append(y, hub)
}

func (x model) flip(d int) model {
	mate := samples.Mate(d)
	beyond, other := x.border(d)[2], x.border(mate)[2]
	return x.without(d).without(mate).ahead(d, beyond).ahead(mate, other)
}

// mayFlip tells whether d's edge is between two triangles.
func (x model) mayFlip(d int) bool {
	one, other := x.border(d), x.border(samples.Mate(d))
	return len(one) == 3 && len(other) == 3 && !slices.Contains(one, samples.Mate(d)) && x.next(d) != d && x.next(samples.Mate(d)) != samples.Mate(d)
}

// checkGrown holds what grew of m against the model, and that m is as it was.
func checkGrown(t *testing.T, what string, m, got *dart.Map, e api.Errno, want model) {
	t.Helper()
	if e != api.OK || !dart.Same(got, samples.Map(t, want.sigma(), m.Root(), m.Lone())) {
		t.Fatalf("%s of %v, %d, %d: %v, %v, %d, %d, want %v", what, m.List(), m.Root(), m.Lone(), e, got.List(), got.Root(), got.Lone(), want.sigma())
	}
	if euler.Genus(got) != euler.Genus(m) || euler.Planar(got) != euler.Planar(m) || len(euler.Parts(got)) != len(euler.Parts(m)) {
		t.Fatalf("%s of %v: another genus, or other parts: %v", what, m.List(), got.List())
	}
}

// checkRefused holds what didn't grow against why it doesn't.
func checkRefused(t *testing.T, what string, got *dart.Map, e, want api.Errno) {
	t.Helper()
	if got != nil || e != want {
		t.Fatalf("%s: %v, %v, want %v", what, got.List(), e, want)
	}
}

// checkSame holds that m is as it was.
func checkSame(t *testing.T, m *dart.Map, sigma []int, root, lone int) {
	t.Helper()
	if !slices.Equal(m.List(), sigma) || m.Root() != root || m.Lone() != lone {
		t.Fatalf("%v, %d, %d is now %v, %d, %d", sigma, root, lone, m.List(), m.Root(), m.Lone())
	}
}

func TestP23_1Leaf(t *testing.T) {
	for _, m := range maps(t) {
		x, sigma := modelOf(m), m.List()
		for d := range m.Darts() {
			got, e := grow.Leaf(m, d)
			checkGrown(t, "Leaf", m, got, e, x.leaf(d))
			if got.Vertices() != m.Vertices()+1 || got.Borders() != m.Borders() {
				t.Fatalf("Leaf of %v, %d: %v", sigma, d, got.List())
			}
		}
		checkSame(t, m, sigma, m.Root(), m.Lone())
	}
}

func TestP23_1Chord(t *testing.T) {
	joined, apart, alone := 0, 0, 0
	for _, m := range maps(t) {
		x, sigma := modelOf(m), m.List()
		for d := range m.Darts() {
			for e := range m.Darts() {
				got, fault := grow.Chord(m, d, e)
				if !slices.Contains(x.border(x.next(d)), x.next(e)) {
					checkRefused(t, "Chord between two faces", got, fault, api.ErrDomain)
					apart++
					continue
				}
				checkGrown(t, "Chord", m, got, fault, x.chord(d, e))
				if got.Vertices() != m.Vertices() || got.Borders() != m.Borders()+1 {
					t.Fatalf("Chord of %v, %d, %d: %v", sigma, d, e, got.List())
				}
				joined++
				if d == e {
					alone++
				}
			}
		}
		checkSame(t, m, sigma, m.Root(), m.Lone())
	}
	if joined == 0 || apart == 0 || alone == 0 {
		t.Fatal(joined, apart, alone)
	}
}

func TestP23_2Split(t *testing.T) {
	for _, m := range maps(t) {
		x, sigma := modelOf(m), m.List()
		for d := range m.Darts() {
			got, e := grow.Split(m, d)
			checkGrown(t, "Split", m, got, e, x.split(d))
			if got.Vertices() != m.Vertices()+1 || got.Borders() != m.Borders() {
				t.Fatalf("Split of %v, %d: %v", sigma, d, got.List())
			}
		}
		checkSame(t, m, sigma, m.Root(), m.Lone())
	}
}

func TestP23_2Star(t *testing.T) {
	for _, m := range maps(t) {
		x, sigma := modelOf(m), m.List()
		for d := range m.Darts() {
			got, e := grow.Star(m, d)
			checkGrown(t, "Star", m, got, e, x.star(d))
			corners := len(m.Border(d))
			if got.Vertices() != m.Vertices()+1 || got.Borders() != m.Borders()-1+corners || got.Edges() != m.Edges()+corners {
				t.Fatalf("Star of %v, %d: %v", sigma, d, got.List())
			}
			for i := range corners {
				if l := got.Border(2 * (m.Edges() + i)); len(l) != 3 {
					t.Fatalf("Star of %v, %d: the face %v", sigma, d, l)
				}
			}
		}
		checkSame(t, m, sigma, m.Root(), m.Lone())
	}
}

func TestP23_2Flip(t *testing.T) {
	flips, refused := 0, 0
	for _, m := range append(maps(t), triangulated(t)...) {
		x, sigma := modelOf(m), m.List()
		for d := range m.Darts() {
			got, e := grow.Flip(m, d)
			if !x.mayFlip(d) {
				checkRefused(t, "Flip of what is not between two triangles", got, e, api.ErrDomain)
				refused++
				continue
			}
			checkGrown(t, "Flip", m, got, e, x.flip(d))
			if got.Vertices() != m.Vertices() || got.Borders() != m.Borders() || got.Edges() != m.Edges() {
				t.Fatalf("Flip of %v, %d: %v", sigma, d, got.List())
			}
			flips++
		}
		checkSame(t, m, sigma, m.Root(), m.Lone())
	}
	if flips == 0 || refused == 0 {
		t.Fatal(flips, refused)
	}
}

// triangulated answers maps that have triangles for faces, or some: loops and
// doubled edges too, and some on surfaces.
func triangulated(t *testing.T) []*dart.Map {
	t.Helper()
	all := []*dart.Map{
		samples.Map(t, []int{2, 4, 1, 3, 0, 5}, 0, 0),
		samples.Map(t, []int{2, 5, 4, 1, 0, 3}, 1, 1),
		// One vertex on a torus: three edges, two triangles.
		samples.Map(t, []int{2, 3, 4, 5, 1, 0}, 0, 0),
	}
	r := rand.New(rand.NewPCG(113, 114))
	for range 30 {
		m := samples.Map(t, triangle, r.IntN(6), r.IntN(2))
		for range 6 {
			m, _ = grow.Star(m, r.IntN(m.Darts()))
			for range 4 {
				if other, e := grow.Flip(m, r.IntN(m.Darts())); e == api.OK {
					m = other
				}
			}
		}
		all = append(all, m)
	}
	return all
}

// TestP23_2FlipRound goes on flipping: the edge turns by a half each second
// time.
func TestP23_2FlipRound(t *testing.T) {
	for _, m := range triangulated(t) {
		for d := range m.Darts() {
			at := m
			for k := range 4 {
				next, e := grow.Flip(at, d)
				if e != api.OK {
					if k > 0 {
						t.Fatalf("Flip of %v, %d, %d times: %v", m.List(), d, k, e)
					}
					break
				}
				at = next
			}
			if !dart.Same(at, m) {
				t.Fatalf("Flip of %v, %d, four times: %v", m.List(), d, at.List())
			}
		}
	}
}

// TestP23_BackAgain takes away what grew, by what takes edges away.
func TestP23_BackAgain(t *testing.T) {
	for _, m := range maps(t) {
		for d := range m.Darts() {
			leaf, _ := grow.Leaf(m, d)
			split, _ := grow.Split(m, d)
			chord, _ := grow.Chord(m, d, d)
			for i, take := range []func() (*dart.Map, api.Errno){
				func() (*dart.Map, api.Errno) { return dual.Shrink(leaf, m.Edges()) },
				func() (*dart.Map, api.Errno) { return dual.Shrink(split, m.Edges()) },
				func() (*dart.Map, api.Errno) { return dual.Cut(chord, m.Edges()) },
			} {
				if got, e := take(); e != api.OK || !dart.Same(got, m) {
					t.Fatalf("%d: of %v, %d, and back: %v, %v", i, m.List(), d, got.List(), e)
				}
			}
		}
	}
}

// TestP23_Known holds what grows of one edge, of a loop and of a triangle against
// what the words make of them.
func TestP23_Known(t *testing.T) {
	loop, tri := samples.Map(t, []int{1, 0}, 1, 2), samples.Map(t, triangle, 4, 0)
	for _, x := range []struct {
		what string
		grow func() (*dart.Map, api.Errno)
		want []int
		root int
		lone int
	}{
		{"Leaf at the other end", func() (*dart.Map, api.Errno) { return grow.Leaf(grow.Seed(), 1) }, []int{0, 2, 1, 3}, 0, 0},
		{"Leaf in a loop", func() (*dart.Map, api.Errno) { return grow.Leaf(loop, 0) }, []int{2, 0, 1, 3}, 1, 2},
		{"Leaf around a loop", func() (*dart.Map, api.Errno) { return grow.Leaf(loop, 1) }, []int{1, 2, 0, 3}, 1, 2},
		{"Chord beside an edge", func() (*dart.Map, api.Errno) { return grow.Chord(grow.Seed(), 0, 1) }, []int{2, 3, 0, 1}, 0, 0},
		{"Chord in one corner", func() (*dart.Map, api.Errno) { return grow.Chord(grow.Seed(), 1, 1) }, []int{0, 2, 3, 1}, 0, 0},
		{"Split of an edge", func() (*dart.Map, api.Errno) { return grow.Split(grow.Seed(), 0) }, []int{0, 2, 1, 3}, 0, 0},
		{"Split from the other end", func() (*dart.Map, api.Errno) { return grow.Split(grow.Seed(), 1) }, []int{2, 1, 0, 3}, 0, 0},
		{"Split of a loop", func() (*dart.Map, api.Errno) { return grow.Split(loop, 0) }, []int{3, 2, 1, 0}, 1, 2},
		{"Star around an edge", func() (*dart.Map, api.Errno) { return grow.Star(grow.Seed(), 0) }, []int{2, 4, 0, 5, 1, 3}, 0, 0},
		{"Star in a loop", func() (*dart.Map, api.Errno) { return grow.Star(loop, 0) }, []int{1, 2, 0, 3}, 1, 2},
		{"Star in a triangle", func() (*dart.Map, api.Errno) { return grow.Star(tri, 0) }, []int{5, 8, 1, 10, 3, 6, 0, 11, 2, 7, 4, 9}, 4, 0},
		{"Flip of a triangle's side", func() (*dart.Map, api.Errno) { return grow.Flip(tri, 0) }, []int{4, 3, 2, 0, 1, 5}, 4, 0},
	} {
		got, e := x.grow()
		if e != api.OK {
			t.Fatalf("%s: %v", x.what, e)
		}
		if !dart.Same(got, samples.Map(t, x.want, x.root, x.lone)) {
			t.Errorf("%s: %v, %d, %d, want %v", x.what, got.List(), got.Root(), got.Lone(), x.want)
		}
	}
}

func TestP23_2Seed(t *testing.T) {
	for range 2 {
		checkSame(t, grow.Seed(), []int{0, 1}, 0, 0)
	}
}

// calls are those that take one dart.
func calls() map[string]func(m *dart.Map, d int) (*dart.Map, api.Errno) {
	return map[string]func(m *dart.Map, d int) (*dart.Map, api.Errno){
		"Leaf": grow.Leaf, "Split": grow.Split, "Star": grow.Star, "Flip": grow.Flip,
		"Chord":             func(m *dart.Map, d int) (*dart.Map, api.Errno) { return grow.Chord(m, d, 0) },
		"Chord, the second": func(m *dart.Map, d int) (*dart.Map, api.Errno) { return grow.Chord(m, 0, d) },
		"Chord, both":       func(m *dart.Map, d int) (*dart.Map, api.Errno) { return grow.Chord(m, d, d) },
	}
}

func TestP23_Errors(t *testing.T) {
	some := []*dart.Map{
		samples.Map(t, nil, -1, 0), samples.Map(t, nil, -1, 3), grow.Seed(), samples.Map(t, []int{1, 0}, 1, 1),
		samples.Map(t, tetrahedron, 0, 0), largest(t), samples.Map(t, nil, -1, api.MaxLone),
	}
	for what, call := range calls() {
		for _, d := range []int{math.MinInt, -1, 0, 1, math.MaxInt} {
			got, e := call(nil, d)
			checkRefused(t, what+" of nil", got, e, api.ErrNone)
		}
		for _, m := range some {
			for _, d := range []int{math.MinInt, -2, -1, m.Darts(), m.Darts() + 1, math.MaxInt} {
				got, e := call(m, d)
				checkRefused(t, what+" of no dart", got, e, api.ErrRange)
			}
		}
	}
}

// largest answers a map of as many edges as can be: a vertex with loops side
// by side, and so many lone ones.
func largest(t *testing.T) *dart.Map {
	t.Helper()
	sigma := make([]int, 2*api.MaxEdges)
	for d := range sigma {
		sigma[d] = (d + 1) % len(sigma)
	}
	return samples.Map(t, sigma, 5, 2)
}

// path answers one of so many edges.
func path(t *testing.T, edges int) *dart.Map {
	t.Helper()
	sigma := make([]int, 2*edges)
	for d := range sigma {
		sigma[d] = d
		if d > 0 && d < len(sigma)-1 {
			sigma[d] = d - 1 + 2*(d%2)
		}
	}
	return samples.Map(t, sigma, 0, 0)
}

func TestP23_Large(t *testing.T) {
	m := largest(t)
	if m.Phi(0) != 2 || m.Phi(1) != 1 {
		t.Fatal(m.Phi(0), m.Phi(1))
	}
	for _, x := range []struct {
		what string
		grow func() (*dart.Map, api.Errno)
		want api.Errno
	}{
		{"Leaf", func() (*dart.Map, api.Errno) { return grow.Leaf(m, 9) }, api.ErrLarge},
		{"Split", func() (*dart.Map, api.Errno) { return grow.Split(m, 9) }, api.ErrLarge},
		{"Star within a loop", func() (*dart.Map, api.Errno) { return grow.Star(m, 1) }, api.ErrLarge},
		{"Star around all loops", func() (*dart.Map, api.Errno) { return grow.Star(m, 0) }, api.ErrLarge},
		{"Chord", func() (*dart.Map, api.Errno) { return grow.Chord(m, 1, 3) }, api.ErrLarge},
		{"Chord of one corner", func() (*dart.Map, api.Errno) { return grow.Chord(m, 2, 2) }, api.ErrLarge},
		{"Chord between two faces", func() (*dart.Map, api.Errno) { return grow.Chord(m, 0, 1) }, api.ErrDomain},
		{"Flip of a loop", func() (*dart.Map, api.Errno) { return grow.Flip(m, 0) }, api.ErrDomain},
		{"Star of what is too long", func() (*dart.Map, api.Errno) { return grow.Star(path(t, api.MaxEdges/3+1), 1) }, api.ErrLarge},
	} {
		got, e := x.grow()
		checkRefused(t, x.what, got, e, x.want)
	}
}

// TestP23_AsLarge grows maps that are as large as can be then.
func TestP23_AsLarge(t *testing.T) {
	m := path(t, api.MaxEdges-1)
	for what, call := range calls() {
		if what == "Star" || what == "Flip" {
			continue
		}
		got, e := call(m, 77)
		if e != api.OK || got.Edges() != api.MaxEdges || !euler.Planar(got) || !euler.Connected(got) {
			t.Errorf("%s: %v", what, e)
		}
	}
	got, e := grow.Star(path(t, api.MaxEdges/3), 1)
	if e != api.OK || got.Edges() != api.MaxEdges-1 || got.Degree(got.Vertices()-1) != api.MaxEdges/3*2 || !euler.Planar(got) {
		t.Errorf("Star: %v", e)
	}
	// All faces of this one are triangles; the hub's edges may be flipped.
	flipped, e := grow.Flip(got, got.Darts()-1)
	if e != api.OK || flipped.Edges() != got.Edges() || !euler.Planar(flipped) || dart.Same(flipped, got) {
		t.Errorf("Flip: %v", e)
	}
}

func TestExamples(t *testing.T) {
	m, e := grow.Leaf(grow.Seed(), 0)
	if e != api.OK {
		t.Fatal(e)
	}
	checkSame(t, m, []int{2, 1, 0, 3}, 0, 0)
}

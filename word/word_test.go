package word_test

import (
	"fmt"
	"math"
	"math/big"
	"math/rand/v2"
	"slices"
	"strings"
	"testing"

	"parquetry/api"
	"parquetry/bits"
	"parquetry/canon"
	"parquetry/dart"
	"parquetry/euler"
	"parquetry/samples"
	"parquetry/wood"
	"parquetry/word"
)

// encoded answers the code of m, that is a triangulation, as a text.
func encoded(t *testing.T, m *dart.Map) string {
	t.Helper()
	v, e := word.Encode(m)
	if e != api.OK {
		t.Fatalf("Encode of %v, %d: %v", m.List(), m.Root(), e)
	}
	return v.Text()
}

// goingAround is what a model of a code knows of a triangulation.
type goingAround struct {
	m    *dart.Map
	w    *wood.Wood
	way  strings.Builder // down and up
	rest strings.Builder // of each vertex that is left, the ones and the nought
}

// isChild tells whether the edge from v to u leads down the tree.
func (g *goingAround) isChild(v, u int) bool {
	d := g.m.Root()
	v1, v2, c := g.m.Vertex(d), g.m.Vertex(g.m.Mate(d)), g.m.Vertex(g.m.Phi(g.m.Phi(d)))
	return g.w.Parent(u, 0) == v || v == c && (u == v1 || u == v2)
}

// visit goes down to what is below d's vertex, by Sigma from d on.
func (g *goingAround) visit(d int) {
	v := g.m.Vertex(d)
	for _, at := range g.m.Around(d) {
		mate := g.m.Mate(at)
		u := g.m.Vertex(mate)
		if !g.isChild(v, u) {
			continue
		}
		g.way.WriteString("1")
		g.visit(mate)
		g.way.WriteString("0")
		ones := len(g.w.Children(u, 1))
		if u == g.m.Vertex(g.m.Root()) {
			ones++
		}
		g.rest.WriteString(strings.Repeat("1", ones) + "0")
	}
}

// modelCode is the code of m, by going down from vertex to vertex.
func modelCode(t *testing.T, m *dart.Map) string {
	t.Helper()
	w, e := wood.Of(m)
	if e != api.OK {
		t.Fatal(e)
	}
	g := &goingAround{m: m, w: w}
	g.visit(m.Phi(m.Phi(m.Root())))
	return g.way.String() + g.rest.String()
}

// checkCode holds the code of m against the model, and what it is decoded to
// against its canonical map.
func checkCode(t *testing.T, m *dart.Map) {
	t.Helper()
	s := encoded(t, m)
	if want := modelCode(t, m); s != want {
		t.Fatalf("Encode of %v, %d: %s, want %s", m.List(), m.Root(), samples.Short(s), samples.Short(want))
	}
	n := m.Vertices()
	if len(s) != 4*n-5 || word.Size(n) != len(s) || word.Vertices(samples.Vec(s)) != n {
		t.Fatalf("of %d vertices: %d bits, Size %d, Vertices %d", n, len(s), word.Size(n), word.Vertices(samples.Vec(s)))
	}
	got, e := word.Decode(samples.Vec(s))
	want, _, _ := canon.Canon(m)
	if e != api.OK || !dart.Same(got, want) {
		t.Fatalf("Decode of %s: %v, %v, want %v", samples.Short(s), e, got.List(), want.List())
	}
	if again := encoded(t, got); again != s {
		t.Fatalf("Encode of Decode of %s: %s", samples.Short(s), samples.Short(again))
	}
}

func TestP16_AllSmall(t *testing.T) {
	r := rand.New(rand.NewPCG(121, 122))
	for n := 3; n <= 7; n++ {
		for _, m := range samples.Triangulations(t, n) {
			checkCode(t, m)
			checkCode(t, samples.Renamed(t, r.IntN, m))
		}
	}
}

func TestP16_Random(t *testing.T) {
	r := rand.New(rand.NewPCG(123, 124))
	for _, n := range []int{8, 9, 12, 20, 40, 131, 200} {
		for range 4 {
			m := samples.Triangulation(t, r.IntN, n)
			for range 4 {
				checkCode(t, samples.Rooted(t, m, r.IntN(m.Darts())))
			}
		}
	}
}

// TestP16_1Known holds codes against those that are gone around by hand: of
// five vertices, one of the root's three corners may have three darts alone.
func TestP16_1Known(t *testing.T) {
	if s := encoded(t, samples.Triangle(t)); s != "1010"+"100" {
		t.Errorf("of a triangle: %s", s)
	}
	for _, m := range samples.Triangulations(t, 4) {
		if s := encoded(t, m); s != "101010"+"11000" {
			t.Errorf("of four vertices: %s", s)
		}
	}
	want := map[string]string{
		"344": "10101010" + "1101000",
		"434": "10101010" + "1110000",
		"443": "10110010" + "1110000",
	}
	for _, m := range samples.Triangulations(t, 5) {
		degrees := ""
		for _, d := range m.Border(m.Root()) {
			degrees += fmt.Sprint(m.Degree(m.Vertex(d)))
		}
		if s := encoded(t, m); s != want[degrees] {
			t.Errorf("of five vertices, %s darts at the corners: %s, want %s", degrees, s, want[degrees])
		}
	}
}

// TestP16_1Names asks for the code by other names, and by other roots: the
// names don't count, the root does, but for turns of the map into itself.
func TestP16_1Names(t *testing.T) {
	r := rand.New(rand.NewPCG(125, 126))
	for _, n := range []int{4, 5, 8, 30} {
		m := samples.Triangulation(t, r.IntN, n)
		codes := map[string]int{}
		for d := range m.Darts() {
			from := samples.Rooted(t, m, d)
			codes[encoded(t, from)]++
			if s := encoded(t, samples.Renamed(t, r.IntN, from)); s != encoded(t, from) {
				t.Fatalf("by other names: %s, want %s", s, encoded(t, from))
			}
		}
		if len(codes)*canon.Shape(m) != m.Darts() {
			t.Errorf("of %d vertices: %d codes of %d darts, Shape %d", n, len(codes), m.Darts(), canon.Shape(m))
		}
	}
}

func TestP16_1Errors(t *testing.T) {
	if v, e := word.Encode(nil); v != nil || e != api.ErrNone {
		t.Errorf("Encode of nil: %v", e)
	}
	for name, m := range samples.NoTriangulations(t) {
		if v, e := word.Encode(m); v != nil || e != api.ErrDomain {
			t.Errorf("Encode of %s: %v", name, e)
		}
	}
}

func TestP16_1Size(t *testing.T) {
	for n, want := range map[int]int{math.MinInt: 0, -1: 0, 0: 0, 1: 0, 2: 0, 3: 7, 4: 11, 5: 15, 100: 395, 21847: 87383, 21848: 87387, 1 << 28: 1<<30 - 5} {
		if got := word.Size(n); got != want {
			t.Errorf("Size of %d: %d, want %d", n, got, want)
		}
	}
}

func TestP16_2Vertices(t *testing.T) {
	if n := word.Vertices(nil); n != 0 {
		t.Errorf("Vertices of nil: %d", n)
	}
	v := bits.New()
	for k := range 400 {
		want := 0
		for n := 3; n <= k; n++ {
			if word.Size(n) == k {
				want = n
			}
		}
		if got := word.Vertices(v); got != want {
			t.Errorf("Vertices of %d bits: %d, want %d", k, got, want)
		}
		v.Add(k % 2)
	}
}

// modelFault is why bits aren't one of the codes that there are.
func modelFault(s string, codes map[string]int) api.Errno {
	n := (len(s) + 5) / 4
	switch {
	case len(s) < 7 || 4*n-5 != len(s):
		return api.ErrForm
	case !samples.IsBalanced(s[:2*n-2], "10"):
		return api.ErrBalance
	case codes[s] == 0:
		return api.ErrCanon
	}
	return api.OK
}

// checkBits holds what bits are decoded to against why they aren't; it answers
// whether they are a code.
func checkBits(t *testing.T, s string, want api.Errno) bool {
	t.Helper()
	m, e := word.Decode(samples.Vec(s))
	if e != want || (m != nil) != (e == api.OK) {
		t.Fatalf("Decode of %s: %v, %v, want %v", samples.Short(s), m.List(), e, want)
	}
	if e != api.OK {
		return false
	}
	if !canon.Is(m) || !euler.Triangulation(m) || encoded(t, m) != s {
		t.Fatalf("Decode of %s: %v", samples.Short(s), m.List())
	}
	return true
}

// codesOf answers the codes of all triangulations of n vertices.
func codesOf(t *testing.T, n int) map[string]int {
	t.Helper()
	codes := map[string]int{}
	for _, m := range samples.Triangulations(t, n) {
		codes[encoded(t, m)]++
	}
	return codes
}

// TestP16_2AllBits decodes all bits that there are.
func TestP16_2AllBits(t *testing.T) {
	found := map[int]int{}
	for k := range 20 {
		codes := map[string]int{}
		if k == 7 || k == 11 || k == 15 || k == 19 {
			codes = codesOf(t, (k+5)/4)
		}
		for x := range 1 << k {
			v := bits.New()
			v.Num(uint64(x), k)
			s := v.Text()
			if checkBits(t, s, modelFault(s, codes)) {
				found[k]++
			}
		}
		if found[k] != len(codes) {
			t.Errorf("of %d bits: %d are codes, want %d", k, found[k], len(codes))
		}
	}
}

// balanced answers all balanced texts of so many pairs.
func balanced(pairs int) []string {
	if pairs == 0 {
		return []string{""}
	}
	var all []string
	for within := range pairs {
		for _, one := range balanced(within) {
			for _, other := range balanced(pairs - 1 - within) {
				all = append(all, "1"+one+"0"+other)
			}
		}
	}
	return all
}

// mixes answers all texts of so many ones and noughts.
func mixes(ones, noughts int) []string {
	if ones == 0 || noughts == 0 {
		return []string{strings.Repeat("1", ones) + strings.Repeat("0", noughts)}
	}
	var all []string
	for _, s := range mixes(ones-1, noughts) {
		all = append(all, "1"+s)
	}
	for _, s := range mixes(ones, noughts-1) {
		all = append(all, "0"+s)
	}
	return all
}

// rootedTriangulations is how many there are of n vertices.
func rootedTriangulations(n int64) int64 {
	product := func(from, to int64) *big.Int { return new(big.Int).MulRange(from, to) }
	k := n - 3
	x := product(1, 4*k+1)
	x.Mul(x, big.NewInt(2))
	x.Quo(x, product(1, k+1))
	return x.Quo(x, product(1, 3*k+2)).Int64()
}

// TestP16_2Counts holds how many bits are codes against how many triangulations
// there are: each vertex's ones end with a nought, the last one's too.
func TestP16_2Counts(t *testing.T) {
	for i, want := range []int{1, 1, 3, 13, 68, 399} {
		n := i + 3
		codes := codesOf(t, n)
		found := 0
		for _, way := range balanced(n - 1) {
			for _, rest := range mixes(n-2, n-2) {
				s := way + rest + "0"
				if checkBits(t, s, modelFault(s, codes)) {
					found++
				}
			}
		}
		if found != want || len(codes) != want || int64(want) != rootedTriangulations(int64(n)) {
			t.Errorf("of %d vertices: %d codes decoded, %d encoded, want %d", n, found, len(codes), want)
		}
	}
}

func TestP16_2Errors(t *testing.T) {
	many := strings.Repeat
	for _, x := range []struct {
		s    string
		want api.Errno
	}{
		{"", api.ErrForm},
		{"101010", api.ErrForm},
		{"10101000", api.ErrForm},
		{"111", api.ErrForm},
		{"1010100", api.OK},
		{"0110100", api.ErrBalance},
		{"1110100", api.ErrBalance},
		{"1110111", api.ErrBalance},
		{"1100100", api.ErrCanon},
		{"1010010", api.ErrCanon},
		{"1010001", api.ErrCanon},
		{"1010000", api.ErrCanon},
		{"1010110", api.ErrCanon},
		{"1010111", api.ErrCanon},
		{"10101011000", api.OK},
		{"10101010100", api.ErrCanon},
		{"10110011000", api.ErrCanon},
		{"11001011000", api.ErrCanon},
		{"11011011000", api.ErrBalance},
		{many("10", 30) + many("1", 29) + many("0", 30), api.OK},
		{many("1", 30) + many("0", 30) + many("1", 29) + many("0", 30), api.ErrCanon},
		{"10" + many("1", 28) + many("0", 28) + "10" + many("1", 29) + many("0", 30), api.OK},
		{many("1", 60) + many("1", 29) + many("0", 30), api.ErrBalance},
		{many("10", 30) + many("1", 29) + many("0", 31), api.ErrForm},
	} {
		checkBits(t, x.s, x.want)
	}
	if m, e := word.Decode(nil); m != nil || e != api.ErrForm {
		t.Errorf("Decode of nil: %v", e)
	}
}

// TestP16_2Changed decodes codes with some bits changed: what is no code is
// refused, and what is one comes again.
func TestP16_2Changed(t *testing.T) {
	r := rand.New(rand.NewPCG(127, 128))
	met := map[api.Errno]int{}
	for _, n := range []int{5, 6, 8, 13, 60} {
		for range 40 {
			b := []byte(encoded(t, samples.Triangulation(t, r.IntN, n)))
			for range 10 {
				i, j := r.IntN(len(b)), r.IntN(len(b))
				changed := slices.Clone(b)
				changed[i], changed[j] = b[j], b[i]
				_, e := word.Decode(samples.Vec(string(changed)))
				met[e]++
				if samples.IsBalanced(string(changed[:2*n-2]), "10") != (e != api.ErrBalance) || e == api.ErrForm {
					t.Fatalf("Decode of %s: %v", changed, e)
				}
				checkBits(t, string(changed), e)
			}
		}
	}
	if met[api.OK] == 0 || met[api.ErrBalance] == 0 || met[api.ErrCanon] == 0 || len(met) != 3 {
		t.Error(met)
	}
}

// TestP16_2TooLarge decodes what is of more vertices than a map's edges reach:
// no triangulation has it.
func TestP16_2TooLarge(t *testing.T) {
	many := strings.Repeat
	for _, n := range []int{21848, 1 << 20} {
		rest := many("1", n-2) + many("0", n-1)
		checkBits(t, many("10", n-1)+rest, api.ErrCanon)
		checkBits(t, many("10", n-2)+"01"+rest, api.ErrBalance)
		checkBits(t, many("10", n-1)+rest+"0", api.ErrForm)
	}
}

// TestP16_Large goes through what is as large as can be.
func TestP16_Large(t *testing.T) {
	r := rand.New(rand.NewPCG(129, 130))
	n := 21847
	many := strings.Repeat
	wide, _ := word.Decode(samples.Vec(many("10", n-1) + many("1", n-2) + many("0", n-1)))
	deep, _ := word.Decode(samples.Vec("10" + many("1", n-3) + many("0", n-3) + "10" + many("1", n-2) + many("0", n-1)))
	for name, m := range map[string]*dart.Map{
		"all beside c":                wide,
		"each below the other":        deep,
		"each in the one ahead of it": samples.Faced(t, samples.Stacked(n, func(faces int) int { return faces - 1 })...),
		"any in one another":          samples.Faced(t, samples.Stacked(n, r.IntN)...),
	} {
		if m.Vertices() != n || m.Edges() != 3*n-6 {
			t.Fatalf("%s: %d edges", name, m.Edges())
		}
		for _, d := range []int{0, 1, m.Darts() / 2, m.Darts() - 1} {
			from := samples.Rooted(t, m, d)
			v, e := word.Encode(from)
			if e != api.OK || v.Len() != 4*n-5 {
				t.Fatalf("Encode of %s, %d: %v", name, d, e)
			}
			got, e := word.Decode(v)
			want, _, _ := canon.Canon(from)
			if e != api.OK || !dart.Same(got, want) {
				t.Fatalf("Decode of %s, %d: %v", name, d, e)
			}
		}
	}
}

// TestP16_Memory changes what was handed in, and what was answered.
func TestP16_Memory(t *testing.T) {
	m := samples.Triangle(t)
	for range 2 {
		v, _ := word.Encode(m)
		if v.Text() != "1010100" {
			t.Fatal(v.Text())
		}
		got, e := word.Decode(v)
		if e != api.OK || v.Text() != "1010100" {
			t.Fatal(v.Text(), e)
		}
		v.Add(1, 1, 1)
		if want, _, _ := canon.Canon(m); !dart.Same(got, want) {
			t.Fatal(got.List())
		}
	}
}

func TestExamples(t *testing.T) {
	v, e := word.Encode(samples.Triangle(t))
	if e != api.OK || v.Text() != "1010"+"100" {
		t.Error(v.Text(), e)
	}
}

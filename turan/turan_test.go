package turan_test

import (
	"math/rand/v2"
	"slices"
	"strings"
	"testing"

	"parquetry/api"
	"parquetry/dart"
	"parquetry/dual"
	"parquetry/euler"
	"parquetry/mixed"
	"parquetry/samples"
	"parquetry/turan"
)

// encoded answers the word of m, that has one, as text.
func encoded(t *testing.T, m *dart.Map) string {
	t.Helper()
	w, e := turan.Encode(m)
	if e != api.OK || w == nil {
		t.Fatalf("Encode of %d darts, %d: %v", m.Darts(), m.Root(), e)
	}
	return w.Text()
}

// orbits is how many orbits of n darts there are by these steps.
func orbits(n int, steps ...func(d int) int) int {
	met, count := make([]bool, n), 0
	for d := range n {
		if met[d] {
			continue
		}
		count++
		met[d] = true
		for waiting := []int{d}; len(waiting) > 0; {
			at := waiting[0]
			waiting = waiting[1:]
			for _, step := range steps {
				if next := step(at); !met[next] {
					met[next] = true
					waiting = append(waiting, next)
				}
			}
		}
	}
	return count
}

// modelError is why a map of this Sigma and so many lone vertices has no word,
// by its counts.
func modelError(sigma []int, lone int) api.Errno {
	turn := func(d int) int { return sigma[d] }
	mate := func(d int) int { return d ^ 1 }
	along := func(d int) int { return sigma[d^1] }
	n := len(sigma)
	vertices, parts := orbits(n, turn)+lone, orbits(n, turn, mate)+lone
	switch {
	case parts != 1:
		return api.ErrDomain
	case n > 0 && vertices-n/2+orbits(n, along) != 2:
		return api.ErrPlanar
	}
	return api.OK
}

// modelWord is the walk's word, told from the darts that were looked at, and
// from the vertices that were met, each by all of its darts.
func modelWord(sigma []int, root int) string {
	looked, met := map[int]byte{}, map[int]int{}
	meet := func(d int) {
		for at := d; met[at] == 0; at = sigma[at] {
			met[at] = 1
		}
	}
	var s []byte
	if len(sigma) > 0 {
		meet(root)
	}
	for at := root; len(s) < len(sigma); {
		sign := map[byte]byte{'(': ')', '[': ']'}[looked[at^1]]
		if sign == 0 {
			sign = '['
			if met[at^1] == 0 {
				sign = '('
				meet(at ^ 1)
			}
		}
		looked[at] = sign
		s = append(s, sign)
		if sign == '(' || sign == ')' {
			at ^= 1
		}
		at = sigma[at]
	}
	return string(s)
}

// checkEncode holds Encode and Bits of a map against the model.
func checkEncode(t *testing.T, sigma []int, root, lone int) {
	t.Helper()
	m := samples.Map(t, sigma, root, lone)
	w, e := turan.Encode(m)
	n, f := turan.Bits(m)
	want := modelError(sigma, lone)
	if e != want || f != want {
		t.Fatalf("Encode of %v, %d, %d: %v, Bits: %v, want %v", sigma, root, lone, e, f, want)
	}
	if e != api.OK {
		if w != nil || n != 0 {
			t.Fatalf("Encode of %v, %d, %d: %v, but %s, %d", sigma, root, lone, e, w.Text(), n)
		}
		return
	}
	if w == nil || w.Text() != modelWord(sigma, root) {
		t.Fatalf("Encode of %v, %d: %s, want %s", sigma, root, w.Text(), modelWord(sigma, root))
	}
	if n != w.Bits().Len() || n != 4*m.Edges() {
		t.Fatalf("Bits of %v, %d: %d", sigma, root, n)
	}
	if !slices.Equal(m.List(), sigma) || m.Root() != root {
		t.Fatalf("Encode of %v, %d: then %v, %d", sigma, root, m.List(), m.Root())
	}
}

func TestP12_1AllSmall(t *testing.T) {
	for n := 2; n <= 6; n += 2 {
		for _, sigma := range samples.Perms(n) {
			for root := range n {
				checkEncode(t, sigma, root, 0)
			}
			checkEncode(t, sigma, n-1, 1)
		}
	}
	for lone := range 4 {
		checkEncode(t, nil, -1, lone)
	}
}

func TestP12_1Random(t *testing.T) {
	r := rand.New(rand.NewPCG(81, 82))
	for _, edges := range []int{4, 5, 8, 30, 100} {
		for range 40 {
			m := anyPlanar(t, r, edges)
			for range 5 {
				checkEncode(t, m.List(), r.IntN(2*edges), 0)
			}
			checkEncode(t, m.List(), m.Root(), 1)
			checkEncode(t, dual.Dual(m).List(), m.Root(), 0)
			checkEncode(t, r.Perm(2*edges), r.IntN(2*edges), 0)
		}
	}
}

// TestP12_1Known asks for words that were gone through by hand.
func TestP12_1Known(t *testing.T) {
	square := func(root int) *dart.Map {
		return samples.Turned(t, root, 0, []int{0, 8, 7}, []int{1, 2}, []int{3, 4, 9}, []int{5, 6})
	}
	for _, x := range []struct {
		name string
		m    *dart.Map
		want string
	}{
		{"a lone vertex", samples.Map(t, nil, -1, 1), ""},
		{"an edge", samples.Turned(t, 0, 0, []int{0}, []int{1}), "()"},
		{"an edge, from its odd dart", samples.Turned(t, 1, 0, []int{0}, []int{1}), "()"},
		{"a loop", samples.Turned(t, 1, 0, []int{0, 1}), "[]"},
		{"two loops", samples.Turned(t, 0, 0, []int{0, 1, 2, 3}), "[][]"},
		{"two loops, the one within the other", samples.Turned(t, 0, 0, []int{0, 2, 3, 1}), "[[]]"},
		{"two edges side by side", samples.Turned(t, 0, 0, []int{0, 2}, []int{3, 1}), "([)]"},
		{"a path from its end", samples.Turned(t, 0, 0, []int{0}, []int{1, 2}, []int{3}), "(())"},
		{"a path from its middle", samples.Turned(t, 2, 0, []int{0}, []int{1, 2}, []int{3}), "()()"},
		{"a triangle", samples.Turned(t, 0, 0, []int{0, 5}, []int{1, 2}, []int{3, 4}), "(([))]"},
		{"a square with a chord, from its side", square(7), "(([([)))]]"},
		{"a square with a chord, from the chord", square(8), "(([)([))]]"},
		{"a loop at an edge's end", samples.Turned(t, 0, 0, []int{0}, []int{1, 2, 3}), "([])"},
		{"an edge in a loop", samples.Turned(t, 1, 0, []int{1, 2, 0}, []int{3}), "[()]"},
	} {
		if got := encoded(t, x.m); got != x.want {
			t.Errorf("Encode of %s: %s, want %s", x.name, got, x.want)
		}
		if n, e := turan.Bits(x.m); n != 2*len(x.want) || e != api.OK {
			t.Errorf("Bits of %s: %d, %v", x.name, n, e)
		}
	}
}

func TestP12_1Errors(t *testing.T) {
	torus := []int{0, 2, 1, 3}
	for _, x := range []struct {
		name string
		m    *dart.Map
		want api.Errno
	}{
		{"nil", nil, api.ErrNone},
		{"nothing", samples.Map(t, nil, -1, 0), api.ErrDomain},
		{"two lone vertices", samples.Map(t, nil, -1, 2), api.ErrDomain},
		{"as many lone vertices as can be", samples.Map(t, nil, -1, api.MaxLone), api.ErrDomain},
		{"an edge and a lone vertex", samples.Turned(t, 0, 1, []int{0}, []int{1}), api.ErrDomain},
		{"two edges apart", samples.Turned(t, 0, 0, []int{0}, []int{1}, []int{2}, []int{3}), api.ErrDomain},
		{"a loop and a loop, apart", samples.Turned(t, 2, 0, []int{0, 1}, []int{2, 3}), api.ErrDomain},
		{"two crossed loops", samples.Turned(t, 0, 0, torus), api.ErrPlanar},
		{"two crossed loops and a lone vertex", samples.Turned(t, 0, 1, torus), api.ErrDomain},
		{"two crossed loops and an edge", samples.Turned(t, 0, 0, torus, []int{4}, []int{5}), api.ErrDomain},
		{"two crossed loops at an edge's end", samples.Turned(t, 4, 0, append(torus, 5), []int{4}), api.ErrPlanar},
	} {
		if w, e := turan.Encode(x.m); w != nil || e != x.want {
			t.Errorf("Encode of %s: %v, want %v", x.name, e, x.want)
		}
		if n, e := turan.Bits(x.m); n != 0 || e != x.want {
			t.Errorf("Bits of %s: %d, %v, want %v", x.name, n, e, x.want)
		}
	}
}

func TestP12_1NewMemory(t *testing.T) {
	m := samples.Turned(t, 0, 0, []int{0, 5}, []int{1, 2}, []int{3, 4})
	for range 2 {
		w, e := turan.Encode(m)
		if e != api.OK || w.Text() != "(([))]" {
			t.Fatal(w.Text(), e)
		}
		w.Add(mixed.Left)
	}
}

// anyPlanar answers some planar map of one part, of so many edges, by some
// names and from some root.
func anyPlanar(t *testing.T, r *rand.Rand, edges int) *dart.Map {
	t.Helper()
	sigma := samples.Sigma(modelVertices(samples.RightText(r.IntN, edges, 1+r.IntN(9), 1+r.IntN(9)))...)
	names := samples.Names(r.IntN, edges)
	named := make([]int, len(sigma))
	for d, next := range sigma {
		named[names[d]] = names[next]
	}
	m := samples.Map(t, named, r.IntN(2*edges), 0)
	if !euler.Connected(m) || !euler.Planar(m) {
		t.Fatalf("%v isn't a planar map of one part", named)
	}
	return m
}

// large are words of maps as large as can be.
func large(r *rand.Rand) map[string]string {
	n := api.MaxEdges
	many := strings.Repeat
	return map[string]string{
		"a path":                  many("(", n) + many(")", n),
		"a path there and back":   many("(", n/2) + many("[", n/2) + many(")", n/2) + many("]", n/2),
		"a star":                  many("()", n),
		"loops side by side":      many("[]", n),
		"loops in one another":    many("[", n) + many("]", n),
		"loops on a path":         many("([])", n/2),
		"loops along a path":      many("([", n/2) + many("])", n/2),
		"edges side by side":      "(" + many("[", n-1) + ")" + many("]", n-1),
		"a fan":                   "(" + many("([", n/2-1) + "[" + many(")", n/2) + many("]", n/2),
		"loops around a star":     many("[", n/2) + many("()", n/2) + many("]", n/2),
		"any":                     samples.RightText(r.IntN, n, 5, 5),
		"any, deep":               samples.RightText(r.IntN, n, 9, 9),
		"any, of few vertices":    samples.RightText(r.IntN, n, 1, 5),
		"any, of many short ones": samples.RightText(r.IntN, n, 5, 2),
	}
}

// TestP12_Large goes through what is as large as can be.
func TestP12_Large(t *testing.T) {
	r := rand.New(rand.NewPCG(83, 84))
	for name, s := range large(r) {
		w := samples.Word(t, s)
		m, e := turan.Decode(w)
		if e != api.OK || m.Edges() != api.MaxEdges || !slices.Equal(m.List(), samples.Sigma(modelVertices(s)...)) {
			t.Fatalf("Decode of %s: %v", name, e)
		}
		if got := encoded(t, m); got != s {
			t.Fatalf("Encode of %s: %s, want %s", name, samples.Short(got), samples.Short(s))
		}
		if n, e := turan.Bits(m); n != 4*api.MaxEdges || e != api.OK {
			t.Fatalf("Bits of %s: %d, %v", name, n, e)
		}
		l, e := turan.Names(w)
		if e != api.OK || !slices.Equal(l, modelNames(s)) {
			t.Fatalf("Names of %s: %v", name, e)
		}
	}
}

func TestExamples(t *testing.T) {
	if s := encoded(t, samples.Turned(t, 0, 0, []int{0, 5}, []int{1, 2}, []int{3, 4})); s != "(([))]" {
		t.Error(s)
	}
	if e := turan.Check(samples.Word(t, "[(])")); e != api.ErrCanon {
		t.Error(e)
	}
}

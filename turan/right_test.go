package turan_test

import (
	"math/big"
	"math/rand/v2"
	"slices"
	"strings"
	"testing"

	"parquetry/api"
	"parquetry/canon"
	"parquetry/dart"
	"parquetry/euler"
	"parquetry/mixed"
	"parquetry/samples"
	"parquetry/turan"
	"parquetry/walk"
)

// modelNames answers of each place of a balanced text its dart, by stacks.
func modelNames(s string) []int {
	var names []int
	open := map[byte][]int{}
	k := 0
	for i := range len(s) {
		pair := map[byte]byte{')': '(', ']': '['}[s[i]]
		if pair == 0 {
			open[s[i]] = append(open[s[i]], k)
			names = append(names, 2*k)
			k++
			continue
		}
		last := len(open[pair]) - 1
		names = append(names, 2*open[pair][last]+1)
		open[pair] = open[pair][:last]
	}
	return names
}

// modelVertices answers the vertices of the map of a right word: a parenthesis
// that opens puts a dart at the vertex where the walk stands, and goes to a
// new one, that begins with its mate; a bracket puts its dart there, and stays.
func modelVertices(s string) [][]int {
	names := modelNames(s)
	vertices := [][]int{nil}
	stack := []int{0}
	for i := range len(s) {
		at := stack[len(stack)-1]
		switch s[i] {
		case '(':
			vertices[at] = append(vertices[at], names[i])
			stack = append(stack, len(vertices))
			vertices = append(vertices, []int{names[i] ^ 1})
		case ')':
			stack = stack[:len(stack)-1]
		default:
			vertices[at] = append(vertices[at], names[i])
		}
	}
	return vertices
}

// modelCheck is why a text is no right word, by taking out pairs, and by when
// each vertex was met.
func modelCheck(s string) api.Errno {
	if !samples.IsBalanced(s, "()") || !samples.IsBalanced(s, "[]") {
		return api.ErrBalance
	}
	met := []int{-1}
	var lefts []int
	for i := range len(s) {
		switch s[i] {
		case '(':
			met = append(met, i)
		case ')':
			met = met[:len(met)-1]
		case '[':
			lefts = append(lefts, i)
		case ']':
			if lefts[len(lefts)-1] < met[len(met)-1] {
				return api.ErrCanon
			}
			lefts = lefts[:len(lefts)-1]
		}
	}
	return api.OK
}

// checkWord holds all that is told of a text's word against the models; it
// answers whether that is right.
func checkWord(t *testing.T, s string) bool {
	t.Helper()
	w, want := samples.Word(t, s), modelCheck(s)
	m, e := turan.Decode(w)
	l, f := turan.Names(w)
	if g := turan.Check(w); e != want || f != want || g != want {
		t.Fatalf("of %s: Decode %v, Names %v, Check %v, want %v", s, e, f, g, want)
	}
	if w.Text() != s {
		t.Fatalf("of %s: then %s", s, w.Text())
	}
	if want != api.OK {
		if m != nil || len(l) != 0 {
			t.Fatalf("of %s: %v, but %v, %v", s, want, m, l)
		}
		return false
	}
	if !slices.Equal(l, modelNames(s)) {
		t.Fatalf("Names of %s: %v, want %v", s, l, modelNames(s))
	}
	checkMap(t, s, m, l)
	return true
}

// checkMap holds the map of a right word, and the names of its places, against
// what they are.
func checkMap(t *testing.T, s string, m *dart.Map, names []int) {
	t.Helper()
	root, lone := 0, 0
	if s == "" {
		root, lone = -1, 1
	}
	sigma := samples.Sigma(modelVertices(s)...)
	if m.Root() != root || m.Lone() != lone || !slices.Equal(m.List(), sigma) {
		t.Fatalf("Decode of %s: %v, %d, %d, want %v", s, m.List(), m.Root(), m.Lone(), sigma)
	}
	if !canon.Is(m) || !euler.Planar(m) || !euler.Connected(m) {
		t.Fatalf("Decode of %s: %v is not canonical, planar, and of one part", s, m.List())
	}
	if got := encoded(t, m); got != s {
		t.Fatalf("Encode of Decode of %s: %s", s, got)
	}
	steps, _ := walk.Of(m, root)
	for i, step := range steps {
		if names[i] != step.Dart {
			t.Fatalf("Names of %s: %v, but the walk is %v", s, names, steps)
		}
	}
}

func TestP12_2AllTexts(t *testing.T) {
	for n := range 9 {
		for _, s := range samples.Texts("()[]", n) {
			checkWord(t, s)
		}
	}
}

// allBalanced hands all balanced texts of so many edges to use, one by one.
func allBalanced(edges int, use func(s string)) {
	s := make([]byte, 0, 2*edges)
	open := map[byte]int{}
	var grow func(left int)
	put := func(sign byte, left int) {
		s = append(s, sign)
		grow(left)
		s = s[:len(s)-1]
	}
	grow = func(left int) {
		if len(s) == 2*edges {
			use(string(s))
			return
		}
		for _, pair := range []string{"()", "[]"} {
			if left > 0 {
				open[pair[0]]++
				put(pair[0], left-1)
				open[pair[0]]--
			}
			if open[pair[0]] > 0 {
				open[pair[0]]--
				put(pair[1], left)
				open[pair[0]]++
			}
		}
	}
	grow(edges)
}

// rootedMaps is how many rooted planar maps of so many edges there are.
func rootedMaps(edges int64) int64 {
	product := func(from, to int64) *big.Int { return new(big.Int).MulRange(from, to) }
	n := new(big.Int).Exp(big.NewInt(3), big.NewInt(edges), nil)
	n.Mul(n, big.NewInt(2))
	n.Mul(n, product(1, 2*edges))
	n.Quo(n, product(1, edges))
	return n.Quo(n, product(1, edges+2)).Int64()
}

func TestP12_2Counts(t *testing.T) {
	for edges, want := range []int64{1, 2, 9, 54, 378, 2916, 24057} {
		n := int64(0)
		allBalanced(edges, func(s string) {
			if checkWord(t, s) {
				n++
			}
		})
		if n != want || n != rootedMaps(int64(edges)) {
			t.Errorf("of %d edges: %d right words, want %d", edges, n, want)
		}
	}
}

// TestP12_2JustWords holds all words of all maps against those that are right.
func TestP12_2JustWords(t *testing.T) {
	for edges := 1; edges <= 4; edges++ {
		written := map[string]int{}
		for _, sigma := range samples.Perms(2 * edges) {
			w, e := turan.Encode(samples.Map(t, sigma, 0, 0))
			if e == api.OK {
				written[w.Text()]++
			}
		}
		if int64(len(written)) != rootedMaps(int64(edges)) {
			t.Errorf("of %d edges: %d words", edges, len(written))
		}
		allBalanced(edges, func(s string) {
			if (turan.Check(samples.Word(t, s)) == api.OK) != (written[s] > 0) {
				t.Fatalf("Check of %s: %v, but of %d maps", s, turan.Check(samples.Word(t, s)), written[s])
			}
		})
	}
}

// checkCanon holds Decode of Encode of m against its canonical map.
func checkCanon(t *testing.T, m *dart.Map) {
	t.Helper()
	w, e := turan.Encode(m)
	if e != api.OK {
		t.Fatalf("Encode of %v, %d: %v", m.List(), m.Root(), e)
	}
	got, e := turan.Decode(w)
	want, _, _ := canon.Canon(m)
	if e != api.OK || !dart.Same(got, want) {
		t.Fatalf("Decode of Encode of %v, %d: %v, want %v", m.List(), m.Root(), got.List(), want.List())
	}
}

func TestP12_2Canon(t *testing.T) {
	r := rand.New(rand.NewPCG(85, 86))
	checkCanon(t, samples.Map(t, nil, -1, 1))
	for _, edges := range []int{1, 2, 3, 4, 5, 9, 40, 300} {
		for range 40 {
			m := anyPlanar(t, r, edges)
			for range 3 {
				other, e := m.Rooted(r.IntN(2 * edges))
				if e != api.OK {
					t.Fatal(e)
				}
				checkCanon(t, other)
			}
		}
	}
}

func TestP12_2Random(t *testing.T) {
	r := rand.New(rand.NewPCG(87, 88))
	for _, edges := range []int{7, 8, 20, 127, 128, 129, 600} {
		for range 20 {
			s := samples.RightText(r.IntN, edges, 1+r.IntN(9), 1+r.IntN(9))
			if !checkWord(t, s) {
				t.Fatalf("%s is refused", s)
			}
			// Two letters that change places make some words wrong, in either
			// way, and others right ones.
			b := []byte(s)
			i, j := r.IntN(len(b)), r.IntN(len(b))
			b[i], b[j] = b[j], b[i]
			checkWord(t, string(b))
		}
	}
}

func TestP12_2Errors(t *testing.T) {
	many := strings.Repeat
	for _, x := range []struct {
		s    string
		want api.Errno
	}{
		{"(", api.ErrBalance},
		{"]", api.ErrBalance},
		{")(", api.ErrBalance},
		{"][", api.ErrBalance},
		{"(]", api.ErrBalance},
		{"[(])(", api.ErrBalance},
		{"[(])]", api.ErrBalance},
		{"[(])", api.ErrCanon},
		{"[()]", api.OK},
		{"([)]", api.OK},
		{"(([))]", api.OK},
		{"([(]))", api.ErrCanon},
		{"[()(])", api.ErrCanon},
		{"[(())]", api.OK},
		{"[((]))", api.ErrCanon},
		{"[(()])", api.ErrCanon},
		{"[[(]])", api.ErrCanon},
		{"[[(])]", api.ErrCanon},
		{"[([])]", api.OK},
		{"[([)]]", api.OK},
		{"([)(])", api.ErrCanon},
		{many("()", 700) + "[" + many("()", 700) + "]", api.OK},
		{many("()", 700) + "[" + many("()", 700) + "(])", api.ErrCanon},
		{"[" + many("(", 700) + many(")", 700) + "]", api.OK},
		{"[" + many("(", 700) + many(")", 699) + "])", api.ErrCanon},
		{many("(", 700) + many("[", 700) + many(")", 700) + many("]", 700), api.OK},
		{many("[", 700) + many("(", 700) + many("]", 700) + many(")", 700), api.ErrCanon},
		{many("[", 700) + many("(", 700) + many("]", 700) + many(")", 701), api.ErrBalance},
	} {
		w := samples.Word(t, x.s)
		m, e := turan.Decode(w)
		l, f := turan.Names(w)
		if g := turan.Check(w); e != x.want || f != x.want || g != x.want {
			t.Errorf("of %s: Decode %v, Names %v, Check %v, want %v", samples.Short(x.s), e, f, g, x.want)
		}
		if (m != nil) != (e == api.OK) || e != api.OK && len(l) != 0 {
			t.Errorf("of %s: %v, but %v, %v", samples.Short(x.s), e, m, l)
		}
	}
}

// TestP12_2TooLarge asks for what is right, but of more edges than a map has.
func TestP12_2TooLarge(t *testing.T) {
	for _, pair := range []string{"()", "[]"} {
		w := samples.Word(t, strings.Repeat(pair, api.MaxEdges+1))
		if e := turan.Check(w); e != api.OK {
			t.Errorf("Check of too many %s: %v", pair, e)
		}
		if m, e := turan.Decode(w); m != nil || e != api.ErrLarge {
			t.Errorf("Decode of too many %s: %v", pair, e)
		}
		if l, e := turan.Names(w); e != api.OK || l[len(l)-1] != 2*api.MaxEdges+1 {
			t.Errorf("Names of too many %s: %v", pair, e)
		}
		w.Add(mixed.Open)
		if m, e := turan.Decode(w); m != nil || e != api.ErrBalance {
			t.Errorf("Decode of too many %s, and (: %v", pair, e)
		}
	}
}

func TestP12_2Empty(t *testing.T) {
	for _, w := range []*mixed.Word{nil, mixed.New()} {
		if e := turan.Check(w); e != api.OK {
			t.Error(e)
		}
		if m, e := turan.Decode(w); e != api.OK || !dart.Same(m, samples.Map(t, nil, -1, 1)) {
			t.Error(m, e)
		}
		if l, e := turan.Names(w); e != api.OK || len(l) != 0 {
			t.Error(l, e)
		}
	}
}

func TestP12_2NewMemory(t *testing.T) {
	w := samples.Word(t, "(([))]")
	m, e := turan.Decode(w)
	if e != api.OK {
		t.Fatal(e)
	}
	for range 2 {
		l, e := turan.Names(w)
		if e != api.OK || !slices.Equal(l, []int{0, 2, 4, 3, 1, 5}) {
			t.Fatal(l, e)
		}
		clear(l)
	}
	// What becomes of the word behind the call changes no answer.
	w.Add(mixed.Left, mixed.Right)
	if !slices.Equal(m.List(), []int{5, 2, 1, 4, 3, 0}) || encoded(t, m) != "(([))]" {
		t.Fatal(m.List())
	}
}

package mixed_test

import (
	"math/rand/v2"
	"strings"
	"testing"

	"parquetry/api"
	"parquetry/mixed"
	"parquetry/samples"
)

// indexed answers the index of the word of s, that is balanced.
func indexed(t *testing.T, s string) *mixed.Mixed {
	t.Helper()
	m, e := mixed.Index(samples.Word(t, s))
	if e != api.OK || m == nil {
		t.Fatalf("Index of %s: %v", samples.Short(s), e)
	}
	return m
}

// model is what the letters of a balanced text are, worked out by stacks.
type model struct {
	mate  []int
	owner []int
}

// modelOf answers the model of s.
func modelOf(s string) model {
	m := model{mate: make([]int, len(s)), owner: make([]int, len(s))}
	var rounds, squares []int
	for i, sign := range s {
		if len(rounds) > 0 {
			m.owner[i] = rounds[len(rounds)-1]
		} else {
			m.owner[i] = -1
		}
		open := &rounds
		if sign == '[' || sign == ']' {
			open = &squares
		}
		if sign == '(' || sign == '[' {
			*open = append(*open, i)
			continue
		}
		o := (*open)[len(*open)-1]
		*open = (*open)[:len(*open)-1]
		m.mate[i], m.mate[o] = o, i
	}
	return m
}

// checkIndex holds all that m tells of right places against s.
func checkIndex(t *testing.T, m *mixed.Mixed, s string) {
	t.Helper()
	if m.Len() != len(s) {
		t.Fatalf("Len of %s: %d", samples.Short(s), m.Len())
	}
	want, kinds := modelOf(s), kindsOf(s)
	counts := [len(signs)]int{}
	for i := range len(s) + 1 {
		for kind, n := range counts {
			if k, e := m.Rank(kind, i); k != n || e != api.OK {
				t.Fatalf("Rank(%d, %d) of %s: %d, %v, want %d", kind, i, samples.Short(s), k, e, n)
			}
		}
		if i == len(s) {
			break
		}
		kind := kinds[i]
		if m.At(i) != kind {
			t.Fatalf("At(%d) of %s: %d", i, samples.Short(s), m.At(i))
		}
		if at, e := m.Mate(i); at != want.mate[i] || e != api.OK {
			t.Fatalf("Mate(%d) of %s: %d, %v, want %d", i, samples.Short(s), at, e, want.mate[i])
		}
		if at, e := m.Owner(i); at != want.owner[i] || e != api.OK {
			t.Fatalf("Owner(%d) of %s: %d, %v, want %d", i, samples.Short(s), at, e, want.owner[i])
		}
		if at, e := m.Select(kind, counts[kind]); at != i || e != api.OK {
			t.Fatalf("Select(%d, %d) of %s: %d, %v, want %d", kind, counts[kind], samples.Short(s), at, e, i)
		}
		counts[kind]++
	}
	checkIndexErrors(t, m, s)
}

// checkIndexErrors asks m for what there isn't.
func checkIndexErrors(t *testing.T, m *mixed.Mixed, s string) {
	t.Helper()
	for _, i := range none(len(s) - 1) {
		if m.At(i) != -1 {
			t.Fatalf("At(%d) of %s: %d", i, samples.Short(s), m.At(i))
		}
		if at, e := m.Mate(i); at != 0 || e != api.ErrRange {
			t.Fatalf("Mate(%d) of %s: %d, %v", i, samples.Short(s), at, e)
		}
		if at, e := m.Owner(i); at != 0 || e != api.ErrRange {
			t.Fatalf("Owner(%d) of %s: %d, %v", i, samples.Short(s), at, e)
		}
	}
	for kind, sign := range signs {
		for _, i := range none(len(s)) {
			if k, e := m.Rank(kind, i); k != 0 || e != api.ErrRange {
				t.Fatalf("Rank(%d, %d) of %s: %d, %v", kind, i, samples.Short(s), k, e)
			}
		}
		for _, k := range none(strings.Count(s, string(sign)) - 1) {
			if at, e := m.Select(kind, k); at != 0 || e != api.ErrRange {
				t.Fatalf("Select(%d, %d) of %s: %d, %v", kind, k, samples.Short(s), at, e)
			}
		}
	}
	for _, kind := range noKinds {
		if k, e := m.Rank(kind, 0); k != 0 || e != api.ErrRange {
			t.Fatalf("Rank(%d, 0) of %s: %d, %v", kind, samples.Short(s), k, e)
		}
		if at, e := m.Select(kind, 0); at != 0 || e != api.ErrRange {
			t.Fatalf("Select(%d, 0) of %s: %d, %v", kind, samples.Short(s), at, e)
		}
	}
}

// balanced answers n letters, n even, of which a letter is round with the
// likelihood rounds of ten, and opens, where both are right, with up of ten.
func balanced(r *rand.Rand, n, rounds, up int) string {
	b := make([]byte, 0, n)
	open := [2]int{}
	for i := range n {
		shape := 0
		if r.IntN(10) >= rounds {
			shape = 1
		}
		all := open[0] + open[1]
		switch {
		case all == 0 || all < n-i && (open[shape] == 0 || r.IntN(10) < up):
			b = append(b, signs[2*shape])
			open[shape]++
			continue
		case open[shape] == 0:
			shape = 1 - shape
		}
		b = append(b, signs[2*shape+1])
		open[shape]--
	}
	return string(b)
}

// lengths are even numbers about the bounds of words and blocks.
var lengths = []int{0, 2, 4, 62, 64, 66, 510, 512, 514, 1022, 1024, 1026, 1030, 2046, 2048, 2050, 2600}

// shaped answers balanced texts of n letters, n even: of each shape alone,
// the one within the other, crossed, and random ones.
func shaped(r *rand.Rand, n int) []string {
	half, rest := n/2, n/2-n/4
	all := []string{
		strings.Repeat("(", half) + strings.Repeat(")", half),
		strings.Repeat("[", half) + strings.Repeat("]", half),
		strings.Repeat("()", half),
		strings.Repeat("[]", half),
		strings.Repeat("(", n/4) + strings.Repeat("[", rest) + strings.Repeat(")", n/4) + strings.Repeat("]", rest),
		strings.Repeat("[", n/4) + strings.Repeat("(", rest) + strings.Repeat("]", n/4) + strings.Repeat(")", rest),
		strings.Repeat("()", n/4) + strings.Repeat("[]", rest),
		strings.Repeat("(", n/4) + strings.Repeat("[]", rest) + strings.Repeat(")", n/4),
	}
	for _, rounds := range []int{0, 1, 5, 9, 10} {
		for _, up := range []int{2, 5, 8} {
			all = append(all, balanced(r, n, rounds, up))
		}
	}
	return all
}

func TestP4_2Short(t *testing.T) {
	for n := range 7 {
		for _, s := range samples.Texts(signs, n) {
			if samples.IsBalanced(s, "()") && samples.IsBalanced(s, "[]") {
				checkIndex(t, indexed(t, s), s)
				continue
			}
			if m, e := mixed.Index(samples.Word(t, s)); m != nil || e != api.ErrBalance {
				t.Fatalf("Index of %s: %v", s, e)
			}
		}
	}
}

func TestP4_2NotBalanced(t *testing.T) {
	long := strings.Repeat("([)]", 300)
	for _, s := range []string{
		"(", ")", "[", "]", ")(", "][", "(]", "[)", "()[", "(][)(", "[](", "())(", "[]][", "([)][",
		long + "(", long + "]", "[" + long, long + ")(" + long, long + "][" + long, long + "[]](" + long + ")[",
	} {
		if m, e := mixed.Index(samples.Word(t, s)); m != nil || e != api.ErrBalance {
			t.Errorf("Index of %s: %v", samples.Short(s), e)
		}
	}
}

func TestP4_2Texts(t *testing.T) {
	r := rand.New(rand.NewPCG(23, 24))
	for _, n := range lengths {
		for _, s := range shaped(r, n) {
			checkIndex(t, indexed(t, s), s)
		}
	}
}

func TestP4_2Large(t *testing.T) {
	r := rand.New(rand.NewPCG(25, 26))
	n := 2 * api.MaxEdges
	for _, s := range []string{
		balanced(r, n, 5, 5),
		strings.Repeat("(", n/4) + strings.Repeat("[", n/4) + strings.Repeat(")", n/4) + strings.Repeat("]", n/4),
	} {
		checkIndex(t, indexed(t, s), s)
	}
}

func TestP4_2AsAtIndex(t *testing.T) {
	w := samples.Word(t, "([)]")
	m, e := mixed.Index(w)
	if e != api.OK || w.Text() != "([)]" {
		t.Fatal(e, w.Text())
	}
	w.Add(mixed.Close, mixed.Left)
	checkIndex(t, m, "([)]")
}

func TestP4_2OfNone(t *testing.T) {
	for _, w := range []*mixed.Word{nil, mixed.New()} {
		m, e := mixed.Index(w)
		if e != api.OK || m == nil || m.Size() > 4096 {
			t.Fatal(e)
		}
		checkIndex(t, m, "")
	}
}

func TestP4_2Size(t *testing.T) {
	r := rand.New(rand.NewPCG(27, 28))
	for _, n := range append(lengths, 2*api.Block*8+2, 2*api.Block*16+2, 2*api.Block*64+2, 2*api.MaxEdges-2, 2*api.MaxEdges, 1<<19+2) {
		for _, s := range []string{
			strings.Repeat("()", n/2),
			strings.Repeat("[]", n/2),
			strings.Repeat("()", n/4) + strings.Repeat("[]", n/2-n/4),
			balanced(r, n, 5, 5),
		} {
			m := indexed(t, s)
			size := m.Size()
			// An entry a block of each letter's shape, and of each shape's own
			// letters, is what there is at least.
			if size > n+4096 || size < n/api.Block*32+n/api.Block*64 {
				t.Fatalf("Size of %s: %d", samples.Short(s), size)
			}
			for i := 0; i < n; i += 97 {
				m.Mate(i)
				m.Owner(i)
			}
			if m.Size() != size {
				t.Fatalf("Size of %s: %d, then %d", samples.Short(s), size, m.Size())
			}
		}
	}
}

func TestP4_2Nil(t *testing.T) {
	var m *mixed.Mixed
	if m.Len() != 0 || m.Size() != 0 {
		t.Fatal(m.Len(), m.Size())
	}
	for _, i := range append(none(0), 0) {
		if m.At(i) != -1 {
			t.Fatal(i, m.At(i))
		}
		calls := map[string]func() (int, api.Errno){
			"Mate":           func() (int, api.Errno) { return m.Mate(i) },
			"Owner":          func() (int, api.Errno) { return m.Owner(i) },
			"Rank":           func() (int, api.Errno) { return m.Rank(mixed.Open, i) },
			"Rank of none":   func() (int, api.Errno) { return m.Rank(i, 0) },
			"Select":         func() (int, api.Errno) { return m.Select(mixed.Open, i) },
			"Select of none": func() (int, api.Errno) { return m.Select(i, 0) },
		}
		for name, call := range calls {
			if x, e := call(); x != 0 || e != api.ErrNone {
				t.Fatalf("%s of %d: %d, %v", name, i, x, e)
			}
		}
	}
}

func TestExamples(t *testing.T) {
	m := indexed(t, "([)]")
	if i, e := m.Mate(1); i != 3 || e != api.OK {
		t.Fatal(i, e)
	}
	if i, e := m.Owner(2); i != 0 || e != api.OK {
		t.Fatal(i, e)
	}
	if i, e := m.Owner(3); i != -1 || e != api.OK {
		t.Fatal(i, e)
	}
}

package paren_test

import (
	"math"
	"math/rand/v2"
	"slices"
	"strings"
	"sync"
	"testing"

	"parquetry/api"
	"parquetry/bits"
	"parquetry/paren"
	"parquetry/samples"
)

// made answers the parentheses of s, that is balanced.
func made(t *testing.T, s string) *paren.Paren {
	t.Helper()
	p, e := paren.New(samples.Vec(s))
	if e != api.OK || p == nil {
		t.Fatalf("New of %s: %v", samples.Short(s), e)
	}
	return p
}

// model is what the parentheses of a text are, worked out by a stack.
type model struct {
	excess []int // of each place
	mate   []int // of each parenthesis
	round  []int // of each parenthesis
}

// modelOf answers the model of s, if s is balanced.
func modelOf(s string) (model, bool) {
	m := model{excess: []int{0}, mate: make([]int, len(s)), round: make([]int, len(s))}
	var open []int
	for i, r := range s {
		if r == '1' {
			m.round[i] = -1
			if len(open) > 0 {
				m.round[i] = open[len(open)-1]
			}
			open = append(open, i)
		} else {
			if len(open) == 0 {
				return model{}, false
			}
			o := open[len(open)-1]
			open = open[:len(open)-1]
			m.mate[o], m.mate[i], m.round[i] = i, o, m.round[o]
		}
		m.excess = append(m.excess, len(open))
	}
	return m, len(open) == 0
}

// random answers n parentheses, n even, that open, where both are right, with
// the likelihood up of ten.
func random(r *rand.Rand, n, up int) string {
	var b strings.Builder
	excess := 0
	for i := range n {
		left := n - i
		if excess == 0 || excess < left && r.IntN(10) < up {
			b.WriteByte('1')
			excess++
		} else {
			b.WriteByte('0')
			excess--
		}
	}
	return b.String()
}

// lengths are even numbers about the bounds of words and blocks, and of the
// least powers of two of blocks.
var lengths = []int{0, 2, 4, 62, 64, 66, 510, 512, 514, 1022, 1024, 1026, 1534, 1536, 1538, 2046, 2048, 2050, 2600, 4608, 4610}

// texts answers balanced texts of all lengths: deep ones, flat ones, ones of
// both, and random ones.
func texts() []string {
	r := rand.New(rand.NewPCG(9, 10))
	var all []string
	for _, n := range lengths {
		deep := strings.Repeat("1", n/2) + strings.Repeat("0", n/2)
		flat := strings.Repeat("10", n/2)
		all = append(all, deep, flat)
		if n > 2 {
			all = append(all, "1"+flat[2:]+"0")
			saw := strings.Repeat("1", n/4) + strings.Repeat("10", n/2-n/4) + strings.Repeat("0", n/4)
			all = append(all, saw, deep+"10"+deep)
		}
		for _, up := range []int{1, 4, 5, 6, 9} {
			all = append(all, random(r, n, up))
		}
	}
	return all
}

// none are places that there aren't, where last is the last one.
func none(last int) []int {
	return []int{math.MinInt, -api.Block, -2, -1, last + 1, last + 2, last + api.Block, math.MaxInt}
}

func TestP3_1Balance(t *testing.T) {
	for n := range 13 {
		for _, s := range samples.Texts("01", n) {
			want := api.OK
			if _, ok := modelOf(s); !ok {
				want = api.ErrBalance
			}
			p, e := paren.New(samples.Vec(s))
			if e != want || (p == nil) != (e != api.OK) {
				t.Fatalf("New of %s: %v, want %v", s, e, want)
			}
		}
	}
}

func TestP3_1NotBalanced(t *testing.T) {
	half := strings.Repeat("10", 300)
	deep := strings.Repeat("1", 600) + strings.Repeat("0", 600)
	for _, s := range []string{
		"1", "0", "01", "11", "00", "110", "100", "0110", "1001", "111000" + "01",
		half + "1", half + "0", half + "01" + half, "0" + half + "1",
		deep + "01", deep + "1", deep + "0", "1" + deep, deep[1:], deep[:len(deep)-1],
		deep[:600] + "0" + deep[600:] + "1", deep[600:] + deep[:600],
	} {
		if p, e := paren.New(samples.Vec(s)); p != nil || e != api.ErrBalance {
			t.Errorf("New of %s: %v", samples.Short(s), e)
		}
	}
}

func TestP3_1LenAndOpen(t *testing.T) {
	for _, s := range texts() {
		p := made(t, s)
		if p.Len() != len(s) {
			t.Fatalf("Len of %s: %d", samples.Short(s), p.Len())
		}
		for i := range s {
			if p.Open(i) != (s[i] == '1') {
				t.Fatalf("Open(%d) of %s: %v", i, samples.Short(s), p.Open(i))
			}
		}
		for _, i := range none(len(s) - 1) {
			if p.Open(i) {
				t.Fatalf("Open(%d) of %s", i, samples.Short(s))
			}
		}
	}
}

func TestP3_1AsAtNew(t *testing.T) {
	v := samples.Vec("110100")
	p, e := paren.New(v)
	if e != api.OK || v.Text() != "110100" {
		t.Fatal(e, v.Text())
	}
	v.Num(math.MaxUint64, 64)
	if p.Len() != 6 || p.Open(6) {
		t.Fatal(p.Len(), p.Open(6))
	}
	if x, e := p.Excess(7); x != 0 || e != api.ErrRange {
		t.Fatal(x, e)
	}
	if i, e := p.Mate(0); i != 5 || e != api.OK {
		t.Fatal(i, e)
	}
	if i, e := p.Mate(6); i != 0 || e != api.ErrRange {
		t.Fatal(i, e)
	}
	if p.Size() != 64 {
		t.Fatal(p.Size())
	}
}

func TestP3_1NoBits(t *testing.T) {
	for _, v := range []*bits.Vec{nil, bits.New()} {
		p, e := paren.New(v)
		if e != api.OK || p == nil || p.Len() != 0 || p.Open(0) || p.Size() != 64 {
			t.Fatal(e)
		}
		if x, e := p.Excess(0); x != 0 || e != api.OK {
			t.Fatal(x, e)
		}
		if i, e := p.Mate(0); i != 0 || e != api.ErrRange {
			t.Fatal(i, e)
		}
		if i, e := p.Round(0); i != 0 || e != api.ErrRange || p.Built() != 0 {
			t.Fatal(i, e, p.Built())
		}
		if x, e := p.Low(0, 0); x != 0 || e != api.OK || p.Built() != 1 {
			t.Fatal(x, e, p.Built())
		}
		if x, e := p.Low(0, 1); x != 0 || e != api.ErrRange {
			t.Fatal(x, e)
		}
	}
}

// check holds what p answers of each place against the model of s.
func check(t *testing.T, p *paren.Paren, s string) {
	t.Helper()
	m, _ := modelOf(s)
	for i, want := range m.excess {
		if x, e := p.Excess(i); x != want || e != api.OK {
			t.Fatalf("Excess(%d) of %s: %d, %v, want %d", i, samples.Short(s), x, e, want)
		}
	}
	for i := range s {
		if at, e := p.Mate(i); at != m.mate[i] || e != api.OK {
			t.Fatalf("Mate(%d) of %s: %d, %v, want %d", i, samples.Short(s), at, e, m.mate[i])
		}
		if at, e := p.Round(i); at != m.round[i] || e != api.OK {
			t.Fatalf("Round(%d) of %s: %d, %v, want %d", i, samples.Short(s), at, e, m.round[i])
		}
	}
}

// checkLow holds Low of these places against the excess of each place.
func checkLow(t *testing.T, p *paren.Paren, excess []int, from, to int) {
	t.Helper()
	want := slices.Min(excess[from : to+1])
	if x, e := p.Low(from, to); x != want || e != api.OK {
		t.Fatalf("Low(%d, %d) of %d: %d, %v, want %d", from, to, p.Len(), x, e, want)
	}
}

func TestP3_2Short(t *testing.T) {
	for n := 0; n <= 12; n += 2 {
		for _, s := range samples.Texts("01", n) {
			m, ok := modelOf(s)
			if !ok {
				continue
			}
			p := made(t, s)
			check(t, p, s)
			for from := range n + 1 {
				for to := from; to <= n; to++ {
					checkLow(t, p, m.excess, from, to)
				}
			}
		}
	}
}

func TestP3_2Texts(t *testing.T) {
	for _, s := range texts() {
		check(t, made(t, s), s)
	}
}

// edges are the places about blocks' bounds and both ends of n bits, and some
// others.
func edges(r *rand.Rand, n int) []int {
	all := []int{0, n, n / 2, r.IntN(n + 1), r.IntN(n + 1), r.IntN(n + 1)}
	for at := 0; at <= n; at += api.Block {
		for _, i := range []int{at - 1, at, at + 1} {
			if i >= 0 && i <= n {
				all = append(all, i)
			}
		}
	}
	return all
}

func TestP3_2Low(t *testing.T) {
	r := rand.New(rand.NewPCG(11, 12))
	for _, s := range texts() {
		p := made(t, s)
		m, _ := modelOf(s)
		all := edges(r, len(s))
		for _, from := range all {
			for _, to := range all {
				if from <= to {
					checkLow(t, p, m.excess, from, to)
				}
			}
		}
	}
}

func TestP3_2Errors(t *testing.T) {
	for _, s := range texts() {
		p := made(t, s)
		n := len(s)
		for _, i := range none(n) {
			if x, e := p.Excess(i); x != 0 || e != api.ErrRange {
				t.Fatalf("Excess(%d) of %s: %d, %v", i, samples.Short(s), x, e)
			}
			for _, pair := range [][2]int{{i, n}, {0, i}, {i, i}} {
				if x, e := p.Low(pair[0], pair[1]); x != 0 || e != api.ErrRange {
					t.Fatalf("Low(%d, %d) of %s: %d, %v", pair[0], pair[1], samples.Short(s), x, e)
				}
			}
		}
		for _, i := range none(n - 1) {
			if at, e := p.Mate(i); at != 0 || e != api.ErrRange {
				t.Fatalf("Mate(%d) of %s: %d, %v", i, samples.Short(s), at, e)
			}
			if at, e := p.Round(i); at != 0 || e != api.ErrRange {
				t.Fatalf("Round(%d) of %s: %d, %v", i, samples.Short(s), at, e)
			}
		}
		if n > 0 {
			for _, from := range []int{1, n/2 + 1, n} {
				if x, e := p.Low(from, from-1); x != 0 || e != api.ErrRange {
					t.Fatalf("Low(%d, %d) of %s: %d, %v", from, from-1, samples.Short(s), x, e)
				}
			}
		}
	}
}

func TestP3_2Large(t *testing.T) {
	r := rand.New(rand.NewPCG(13, 14))
	for _, n := range []int{1 << 17, 1<<17 + 2, 3*api.Block*64 - 2} {
		deep := strings.Repeat("1", n/2) + strings.Repeat("0", n/2)
		for _, s := range []string{deep, random(r, n, 5), "1" + random(r, n-2, 5) + "0"} {
			p := made(t, s)
			check(t, p, s)
			m, _ := modelOf(s)
			for range 200 {
				from := r.IntN(n + 1)
				checkLow(t, p, m.excess, from, from+r.IntN(n+1-from))
			}
		}
	}
}

func TestP3_3Size(t *testing.T) {
	for n, want := range map[int]int{
		0: 1, 2: 1, 510: 1, 512: 1, 514: 3, 1024: 3, 1026: 7, 1536: 7, 1538: 7, 2048: 7, 2050: 15,
		4096: 15, 4098: 31, 8192: 31, 8194: 63, 1 << 17: 511, 1<<17 + 2: 1023,
	} {
		p := made(t, strings.Repeat("10", n/2))
		if p.Size() != 64*want || p.Built() != 0 {
			t.Fatalf("Size of %d: %d, want %d; made %d times", n, p.Size(), 64*want, p.Built())
		}
		if _, e := p.Low(0, n); e != api.OK || p.Size() != 64*want || p.Built() != 1 {
			t.Fatalf("Size of %d, when made: %d, want %d; made %d times", n, p.Size(), 64*want, p.Built())
		}
	}
}

// long is 11 and blocks of pairs and 00.
var long = "11" + strings.Repeat("10", 2*api.Block) + "00"

func TestP3_3BuiltWhenNeeded(t *testing.T) {
	// Each row is a call, and whether it needs the directory.
	calls := []struct {
		name  string
		call  func(p *paren.Paren) (int, api.Errno)
		needs int
	}{
		{"Mate", func(p *paren.Paren) (int, api.Errno) { return p.Mate(0) }, 1},
		{"Mate of the smallest kind", func(p *paren.Paren) (int, api.Errno) { return p.Mate(2) }, 1},
		{"Mate of one that closes", func(p *paren.Paren) (int, api.Errno) { return p.Mate(3) }, 1},
		{"Round", func(p *paren.Paren) (int, api.Errno) { return p.Round(9) }, 1},
		{"Round of the smallest kind", func(p *paren.Paren) (int, api.Errno) { return p.Round(2) }, 1},
		{"Round of the outermost", func(p *paren.Paren) (int, api.Errno) { return p.Round(0) }, 1},
		{"Low", func(p *paren.Paren) (int, api.Errno) { return p.Low(1, len(long)) }, 1},
		{"Low of one place", func(p *paren.Paren) (int, api.Errno) { return p.Low(0, 0) }, 1},
		{"Low of the last place", func(p *paren.Paren) (int, api.Errno) { return p.Low(len(long), len(long)) }, 1},
		{"Mate of none", func(p *paren.Paren) (int, api.Errno) { return p.Mate(len(long)) }, 0},
		{"Mate ahead of all", func(p *paren.Paren) (int, api.Errno) { return p.Mate(-1) }, 0},
		{"Round of none", func(p *paren.Paren) (int, api.Errno) { return p.Round(len(long)) }, 0},
		{"Low of no place", func(p *paren.Paren) (int, api.Errno) { return p.Low(0, len(long)+1) }, 0},
		{"Low the wrong way", func(p *paren.Paren) (int, api.Errno) { return p.Low(2, 1) }, 0},
	}
	for _, c := range calls {
		p := made(t, long)
		p.Open(0)
		p.Size()
		if x, e := p.Excess(2); x != 2 || e != api.OK || p.Built() != 0 {
			t.Fatalf("%s: ahead of it %d, %v, made %d times", c.name, x, e, p.Built())
		}
		for range 3 {
			_, e := c.call(p)
			if (e == api.OK) != (c.needs == 1) || p.Built() != c.needs {
				t.Fatalf("%s: %v, made %d times", c.name, e, p.Built())
			}
		}
		// Behind one that needs none comes one that needs it.
		if i, e := p.Mate(1); i != len(long)-2 || e != api.OK || p.Built() != 1 {
			t.Fatalf("%s: then %d, %v, made %d times", c.name, i, e, p.Built())
		}
	}
}

func TestP3_3OfItsOwn(t *testing.T) {
	v := samples.Vec("110100")
	p, _ := paren.New(v)
	q, _ := paren.New(v)
	p.Mate(0)
	if p.Built() != 1 || q.Built() != 0 {
		t.Fatal(p.Built(), q.Built())
	}
}

func TestP3_3Several(t *testing.T) {
	const workers = 8
	s := random(rand.New(rand.NewPCG(15, 16)), 5000, 5)
	m, _ := modelOf(s)
	p := made(t, s)
	wrongs := [workers]int{}
	var all sync.WaitGroup
	for w := range workers {
		all.Go(func() {
			for i := w; i < len(s); i += 7 {
				mate, e := p.Mate(i)
				if mate != m.mate[i] || e != api.OK || p.Built() != 1 {
					wrongs[w]++
				}
				round, e := p.Round(i)
				if round != m.round[i] || e != api.OK || p.Open(i) != (s[i] == '1') {
					wrongs[w]++
				}
				low, e := p.Low(i/2, i)
				if low != slices.Min(m.excess[i/2:i+1]) || e != api.OK {
					wrongs[w]++
				}
				excess, e := p.Excess(i)
				if excess != m.excess[i] || e != api.OK {
					wrongs[w]++
				}
			}
		})
	}
	all.Wait()
	if wrongs != [workers]int{} || p.Built() != 1 {
		t.Fatal(wrongs, p.Built())
	}
}

func TestP3_3Nil(t *testing.T) {
	var p *paren.Paren
	if p.Len() != 0 || p.Size() != 0 || p.Built() != 0 {
		t.Fatal(p.Len(), p.Size(), p.Built())
	}
	for _, i := range []int{math.MinInt, -1, 0, 1, math.MaxInt} {
		if p.Open(i) {
			t.Fatal(i)
		}
		if x, e := p.Excess(i); x != 0 || e != api.ErrNone {
			t.Fatal(x, e)
		}
		if at, e := p.Mate(i); at != 0 || e != api.ErrNone {
			t.Fatal(at, e)
		}
		if at, e := p.Round(i); at != 0 || e != api.ErrNone {
			t.Fatal(at, e)
		}
		if x, e := p.Low(i, 0); x != 0 || e != api.ErrNone {
			t.Fatal(x, e)
		}
	}
}

func TestExamples(t *testing.T) {
	p := made(t, "110100")
	if i, e := p.Mate(0); i != 5 || e != api.OK {
		t.Fatal(i, e)
	}
	if i, e := p.Round(3); i != 0 || e != api.OK {
		t.Fatal(i, e)
	}
	if i, e := p.Round(0); i != -1 || e != api.OK {
		t.Fatal(i, e)
	}
	if x, e := p.Excess(2); x != 2 || e != api.OK {
		t.Fatal(x, e)
	}
}

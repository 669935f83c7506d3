package rank_test

import (
	"math"
	"math/rand/v2"
	"strings"
	"sync"
	"testing"

	"parquetry/api"
	"parquetry/bits"
	"parquetry/rank"
	"parquetry/samples"
)

// texts answers texts of all lengths about the bounds of words and blocks,
// with many ones, few, none, or all.
func texts() []string {
	r := rand.New(rand.NewPCG(3, 4))
	var all []string
	for _, n := range []int{0, 1, 2, 4, 63, 64, 65, 127, 128, 511, 512, 513, 575, 576, 577, 1023, 1024, 1025, 2600} {
		for _, fill := range []string{"0", "1", "01", "0001", "01111111"} {
			var b strings.Builder
			for range n {
				b.WriteByte(fill[r.IntN(len(fill))])
			}
			all = append(all, b.String())
		}
	}
	// Whole blocks of one kind, ahead of and behind others.
	nought, one := strings.Repeat("0", api.Block), strings.Repeat("1", api.Block)
	return append(all, nought+one+nought, one+nought+nought+one, nought+nought+"1", one+one+"0")
}

// wrong are numbers that are no bit.
var wrong = []int{math.MinInt, -1, 2, 3, math.MaxInt}

func TestP2_1Vector(t *testing.T) {
	for _, s := range texts() {
		x := rank.New(samples.Vec(s))
		if x.Len() != len(s) || x.Ones() != strings.Count(s, "1") {
			t.Fatalf("Len %d, Ones %d of %q", x.Len(), x.Ones(), s)
		}
		for i := range s {
			if x.At(i) != int(s[i]-'0') {
				t.Fatalf("At(%d) of %q: %d", i, s, x.At(i))
			}
		}
		for _, i := range []int{math.MinInt, -1, len(s), len(s) + 1, len(s) + 64, math.MaxInt} {
			if x.At(i) != -1 {
				t.Fatalf("At(%d) of %q: %d", i, s, x.At(i))
			}
		}
	}
}

func TestP2_1Rank(t *testing.T) {
	for _, s := range texts() {
		x := rank.New(samples.Vec(s))
		ahead := [2]int{}
		for i := range len(s) + 1 {
			for bit, want := range ahead {
				if got, e := x.Rank(bit, i); got != want || e != api.OK {
					t.Fatalf("Rank(%d, %d) of %q: %d, %v, want %d", bit, i, s, got, e, want)
				}
			}
			if i < len(s) {
				ahead[s[i]-'0']++
			}
		}
		for _, i := range []int{math.MinInt, -1, len(s) + 1, len(s) + 64, math.MaxInt} {
			for bit := range 2 {
				if got, e := x.Rank(bit, i); got != 0 || e != api.ErrRange {
					t.Fatalf("Rank(%d, %d) of %q: %d, %v", bit, i, s, got, e)
				}
			}
		}
		for _, bit := range wrong {
			if got, e := x.Rank(bit, len(s)); got != 0 || e != api.ErrRange {
				t.Fatalf("Rank(%d, %d) of %q: %d, %v", bit, len(s), s, got, e)
			}
		}
	}
}

func TestP2_1Select(t *testing.T) {
	for _, s := range texts() {
		x := rank.New(samples.Vec(s))
		ahead := [2]int{}
		for i := range s {
			bit := int(s[i] - '0')
			if got, e := x.Select(bit, ahead[bit]); got != i || e != api.OK {
				t.Fatalf("Select(%d, %d) of %q: %d, %v, want %d", bit, ahead[bit], s, got, e, i)
			}
			ahead[bit]++
		}
		for bit, many := range ahead {
			for _, k := range []int{math.MinInt, -1, many, many + 1, many + 64, math.MaxInt} {
				if got, e := x.Select(bit, k); got != 0 || e != api.ErrRange {
					t.Fatalf("Select(%d, %d) of %q: %d, %v", bit, k, s, got, e)
				}
			}
		}
		for _, bit := range wrong {
			if got, e := x.Select(bit, 0); got != 0 || e != api.ErrRange {
				t.Fatalf("Select(%d, 0) of %q: %d, %v", bit, s, got, e)
			}
		}
	}
}

func TestP2_1AsAtNew(t *testing.T) {
	v := samples.Vec("0110")
	x := rank.New(v)
	if k, e := x.Rank(1, 2); k != 1 || e != api.OK {
		t.Fatal(k, e)
	}
	v.Add(1, 1)
	v.Num(math.MaxUint64, 64)
	if x.Len() != 4 || x.Ones() != 2 || x.At(4) != -1 {
		t.Fatal(x.Len(), x.Ones(), x.At(4))
	}
	if i, e := x.Select(0, 1); i != 3 || e != api.OK {
		t.Fatal(i, e)
	}
	if k, e := x.Rank(1, 5); k != 0 || e != api.ErrRange {
		t.Fatal(k, e)
	}
	if i, e := x.Select(1, 2); i != 0 || e != api.ErrRange {
		t.Fatal(i, e)
	}
	if y := rank.New(v); y.Len() != 70 || y.Ones() != 68 || v.Text() != "011011"+strings.Repeat("1", 64) {
		t.Fatal(y.Len(), y.Ones(), v.Text())
	}
}

func TestP2_1NilVector(t *testing.T) {
	for _, v := range []*bits.Vec{nil, bits.New()} {
		x := rank.New(v)
		if x == nil || x.Len() != 0 || x.Ones() != 0 || x.At(0) != -1 || x.Size() != 32 {
			t.Fatal(x)
		}
		for bit := range 2 {
			if i, e := x.Select(bit, 0); i != 0 || e != api.ErrRange {
				t.Fatal(i, e)
			}
		}
		if k, e := x.Rank(0, 1); k != 0 || e != api.ErrRange || x.Built() != 0 {
			t.Fatal(k, e, x.Built())
		}
		if k, e := x.Rank(0, 0); k != 0 || e != api.OK || x.Built() != 1 || x.Asked() != 4 {
			t.Fatal(k, e, x.Built(), x.Asked())
		}
	}
}

func TestP2_1NilIndex(t *testing.T) {
	var x *rank.Index
	for _, i := range []int{-1, 0, 1} {
		if x.At(i) != -1 {
			t.Fatal(i)
		}
		if k, e := x.Rank(i, 0); k != 0 || e != api.ErrNone {
			t.Fatal(k, e)
		}
		if k, e := x.Select(i, -1); k != 0 || e != api.ErrNone {
			t.Fatal(k, e)
		}
	}
	if x.Len() != 0 || x.Ones() != 0 || x.Size() != 0 || x.Built() != 0 || x.Asked() != 0 {
		t.Fatal(x.Len(), x.Ones(), x.Size(), x.Built(), x.Asked())
	}
}

func TestP2_2Size(t *testing.T) {
	for n, want := range map[int]int{0: 32, 1: 64, 64: 64, 511: 64, 512: 64, 513: 96, 1024: 96, 1025: 128, 5120: 352} {
		x := rank.New(samples.Vec(strings.Repeat("1", n)))
		if x.Size() != want || x.Built() != 0 {
			t.Fatalf("Size of %d: %d", n, x.Size())
		}
		if _, e := x.Rank(1, n); e != api.OK || x.Size() != want {
			t.Fatalf("Size of %d, when made: %d", n, x.Size())
		}
	}
}

func TestP2_2BuiltWhenNeeded(t *testing.T) {
	// Each row is a call, and whether it needs the directory.
	calls := []struct {
		name  string
		call  func(x *rank.Index) (int, api.Errno)
		needs int
	}{
		{"Rank", func(x *rank.Index) (int, api.Errno) { return x.Rank(1, 2) }, 1},
		{"Rank of the first place", func(x *rank.Index) (int, api.Errno) { return x.Rank(0, 0) }, 1},
		{"Select", func(x *rank.Index) (int, api.Errno) { return x.Select(0, 1) }, 1},
		{"Rank of no bit", func(x *rank.Index) (int, api.Errno) { return x.Rank(2, 0) }, 0},
		{"Rank of no place", func(x *rank.Index) (int, api.Errno) { return x.Rank(1, 5) }, 0},
		{"Select of no bit", func(x *rank.Index) (int, api.Errno) { return x.Select(-1, 0) }, 0},
		{"Select of none", func(x *rank.Index) (int, api.Errno) { return x.Select(1, 2) }, 0},
	}
	for _, c := range calls {
		x := rank.New(samples.Vec("0110"))
		x.At(0)
		x.Ones()
		x.Size()
		if x.Built() != 0 || x.Asked() != 0 {
			t.Fatalf("%s: made %d, asked %d times ahead of it", c.name, x.Built(), x.Asked())
		}
		for asked := range int64(3) {
			_, e := c.call(x)
			if (e == api.OK) != (c.needs == 1) {
				t.Fatalf("%s: %v", c.name, e)
			}
			if x.Built() != c.needs || x.Asked() != asked+1 {
				t.Fatalf("%s: made %d, asked %d times", c.name, x.Built(), x.Asked())
			}
		}
		// Behind one that needs none comes one that needs it.
		if k, e := x.Rank(1, 4); k != 2 || e != api.OK || x.Built() != 1 || x.Asked() != 4 {
			t.Fatalf("%s: then %d, %v, made %d, asked %d times", c.name, k, e, x.Built(), x.Asked())
		}
	}
}

func TestP2_2Several(t *testing.T) {
	const workers, times = 8, 100
	s := strings.Repeat("0110", 1000)
	x := rank.New(samples.Vec(s))
	wrongs := [workers]int{}
	var all sync.WaitGroup
	for w := range workers {
		all.Go(func() {
			for i := range times {
				k, e := x.Rank(1, 4*i+2)
				if k != 2*i+1 || e != api.OK {
					wrongs[w]++
				}
				at, e := x.Select(0, 2*i+1)
				if at != 4*i+3 || e != api.OK {
					wrongs[w]++
				}
				if _, e := x.Select(1, -1); e != api.ErrRange {
					wrongs[w]++
				}
				if x.Built() != 1 || x.Asked() < int64(3*(i+1)) {
					wrongs[w]++
				}
			}
		})
	}
	all.Wait()
	if wrongs != [workers]int{} {
		t.Fatal(wrongs)
	}
	if x.Built() != 1 || x.Asked() != 3*workers*times {
		t.Fatal(x.Built(), x.Asked())
	}
}

func TestP2_2OfItsOwn(t *testing.T) {
	v := samples.Vec("0110")
	x, y := rank.New(v), rank.New(v)
	x.Rank(1, 2)
	if x.Built() != 1 || x.Asked() != 1 || y.Built() != 0 || y.Asked() != 0 {
		t.Fatal(x.Built(), x.Asked(), y.Built(), y.Asked())
	}
}

func TestExamples(t *testing.T) {
	x := rank.New(samples.Vec("0110"))
	if k, e := x.Rank(1, 2); k != 1 || e != api.OK {
		t.Fatal(k, e)
	}
	if i, e := x.Select(0, 1); i != 3 || e != api.OK {
		t.Fatal(i, e)
	}
}

package bits_test

import (
	"bytes"
	"math"
	"math/rand/v2"
	"slices"
	"strings"
	"testing"

	"parquetry/api"
	"parquetry/bits"
	"parquetry/samples"
)

// lowest is the text of the lowest k bits of x, the lowest first.
func lowest(x uint64, k int) string {
	var b strings.Builder
	for i := range min(max(k, 0), 64) {
		b.WriteByte('0' + byte(x>>i&1))
	}
	return b.String()
}

// check holds all that v tells of itself against the text of its bits.
func check(t *testing.T, v *bits.Vec, want string) {
	t.Helper()
	if v.Text() != want {
		t.Fatalf("Text: %q, want %q", v.Text(), want)
	}
	if v.Len() != len(want) || v.Ones() != strings.Count(want, "1") {
		t.Fatalf("Len %d, Ones %d of %q", v.Len(), v.Ones(), want)
	}
	for i := range want {
		if v.At(i) != int(want[i]-'0') {
			t.Fatalf("At(%d) of %q: %d", i, want, v.At(i))
		}
	}
	for _, i := range []int{-1, len(want), len(want) + 1, len(want) + 64, math.MinInt, math.MaxInt} {
		if v.At(i) != -1 {
			t.Fatalf("At(%d) of %q: %d", i, want, v.At(i))
		}
	}
	if p := v.Bytes(); !bytes.Equal(p, packed(want)) {
		t.Fatalf("Bytes of %q: %x", want, p)
	}
}

// packed is what Bytes should be of a text's bits.
func packed(s string) []byte {
	p := make([]byte, (len(s)+7)/8)
	for i := range s {
		p[i/8] |= (s[i] - '0') << (i % 8)
	}
	return p
}

// texts answers texts of all lengths about the bounds of bytes and words.
func texts() []string {
	r := rand.New(rand.NewPCG(1, 2))
	var all []string
	for _, n := range []int{0, 1, 2, 7, 8, 9, 15, 16, 17, 63, 64, 65, 127, 128, 129, 200, 1000} {
		for _, fill := range []string{"0", "1", "01"} {
			var b strings.Builder
			for range n {
				b.WriteByte(fill[r.IntN(len(fill))])
			}
			all = append(all, b.String())
		}
	}
	return all
}

func TestP1_1Example(t *testing.T) {
	v := bits.New()
	check(t, v, "")
	v.Num(6, 4)
	check(t, v, "0110")
	v.Add(1, 0, -3, 2, math.MinInt)
	check(t, v, "011010111")
	v.Add()
	check(t, v, "011010111")
}

func TestP1_1Num(t *testing.T) {
	const x = 0x9e3779b97f4a7c15
	for _, ahead := range texts() {
		for _, k := range []int{math.MinInt, -1, 0, 1, 2, 7, 8, 31, 32, 33, 63, 64, 65, 128, math.MaxInt} {
			for _, y := range []uint64{x, math.MaxUint64, 0} {
				v := samples.Vec(ahead)
				v.Num(y, k)
				v.Num(1, 2)
				check(t, v, ahead+lowest(y, k)+"10")
			}
		}
	}
}

func TestP1_1Join(t *testing.T) {
	for _, a := range texts() {
		for _, b := range texts() {
			v, w := samples.Vec(a), samples.Vec(b)
			v.Join(w)
			check(t, v, a+b)
			check(t, w, b)
			w.Add(1)
			check(t, v, a+b)
		}
		v := samples.Vec(a)
		v.Join(v)
		v.Join(v)
		check(t, v, a+a+a+a)
		v.Join(nil)
		check(t, v, a+a+a+a)
	}
}

func TestP1_1Cut(t *testing.T) {
	for _, s := range texts() {
		v := samples.Vec(s)
		for _, from := range []int{0, 1, 5, 63, 64, 65, 100, len(s)} {
			for _, to := range []int{0, 1, 6, 63, 64, 65, 128, 129, 150, len(s)} {
				c, e := v.Cut(from, to)
				if from > to || to > len(s) {
					if c != nil || e != api.ErrRange {
						t.Fatalf("Cut(%d, %d) of %d bits: %v, %v", from, to, len(s), c, e)
					}
					continue
				}
				if e != api.OK {
					t.Fatalf("Cut(%d, %d) of %d bits: %v", from, to, len(s), e)
				}
				check(t, c, s[from:to])
				c.Add(1, 1)
				check(t, c, s[from:to]+"11")
				check(t, v, s)
			}
		}
	}
}

func TestP1_1CutWrong(t *testing.T) {
	v := samples.Vec("0110101")
	for _, x := range [][2]int{
		{-1, 0}, {-1, 2}, {-1, -1}, {3, 2}, {7, 6}, {0, 8}, {7, 8}, {8, 8}, {8, 7},
		{math.MinInt, 3}, {0, math.MaxInt}, {math.MaxInt, math.MaxInt}, {math.MaxInt, math.MinInt},
	} {
		if c, e := v.Cut(x[0], x[1]); c != nil || e != api.ErrRange {
			t.Fatalf("Cut(%d, %d): %v, %v", x[0], x[1], c, e)
		}
	}
	check(t, v, "0110101")
}

func TestP1_1AddKeepsNothing(t *testing.T) {
	l := []int{1, 0, 5}
	v := bits.New()
	v.Add(l...)
	if !slices.Equal(l, []int{1, 0, 5}) {
		t.Fatal(l)
	}
	l[0], l[1] = 0, 1
	check(t, v, "101")
}

// TestP1_1Mixed tells vectors the same calls as texts, in any order.
func TestP1_1Mixed(t *testing.T) {
	r := rand.New(rand.NewPCG(3, 4))
	for range 200 {
		v, want := bits.New(), ""
		for range 30 {
			switch r.IntN(4) {
			case 0:
				b := r.IntN(3) - 1
				v.Add(b)
				want += lowest(uint64(b*b), 1)
			case 1:
				x, k := r.Uint64(), r.IntN(70)-2
				v.Num(x, k)
				want += lowest(x, k)
			case 2:
				to := r.IntN(len(want) + 1)
				from := r.IntN(to + 1)
				v, _ = v.Cut(from, to)
				want = want[from:to]
			case 3:
				if len(want) < 500 {
					v.Join(v)
					want += want
				}
			}
			check(t, v, want)
		}
	}
}

func TestP1_2Bytes(t *testing.T) {
	for _, s := range texts() {
		v := samples.Vec(s)
		p := v.Bytes()
		u, e := bits.Of(p, len(s))
		if e != api.OK || !bits.Same(u, v) {
			t.Fatalf("Of Bytes of %q: %v", s, e)
		}
		check(t, u, s)
		for i := range p {
			p[i] ^= 0xff
		}
		check(t, v, s)
		check(t, u, s)
		u.Add(1, 0, 1)
		check(t, u, s+"101")
	}
}

func TestP1_2OfRange(t *testing.T) {
	for size := range 20 {
		p := make([]byte, size)
		for n := -20; n <= 200; n++ {
			right := n >= 0 && (n+7)/8 == size
			v, e := bits.Of(p, n)
			if right && (e != api.OK || v.Len() != n || v.Ones() != 0) {
				t.Fatalf("%d bits of %d bytes: %v", n, size, e)
			}
			if !right && (e != api.ErrRange || v != nil) {
				t.Fatalf("%d bits of %d bytes: %v", n, size, e)
			}
		}
		for _, n := range []int{math.MinInt, math.MaxInt, math.MaxInt - 7} {
			if v, e := bits.Of(p, n); v != nil || e != api.ErrRange {
				t.Fatalf("%d bits of %d bytes: %v", n, size, e)
			}
		}
	}
}

func TestP1_2OfForm(t *testing.T) {
	for n := 1; n <= 40; n++ {
		for place := range (n + 7) / 8 * 8 {
			p := make([]byte, (n+7)/8)
			p[place/8] = 1 << (place % 8)
			v, e := bits.Of(p, n)
			if place < n && (e != api.OK || v.Ones() != 1 || v.At(place) != 1) {
				t.Fatalf("the bit %d of %d: %v", place, n, e)
			}
			if place >= n && (e != api.ErrForm || v != nil) {
				t.Fatalf("the bit %d of %d: %v", place, n, e)
			}
		}
	}
	if v, e := bits.Of([]byte{0xff, 0xff}, 7); v != nil || e != api.ErrRange {
		t.Fatal("a count that is wrong is told ahead of a bit that is", e)
	}
	if v, e := bits.Of(nil, 0); e != api.OK || v.Len() != 0 {
		t.Fatal(e)
	}
}

func TestP1_2Same(t *testing.T) {
	all := texts()
	for i, a := range all {
		for j, b := range all {
			if got := bits.Same(samples.Vec(a), samples.Vec(b)); got != (a == b) {
				t.Fatalf("Same of the texts %d and %d: %v", i, j, got)
			}
		}
		if got := bits.Same(samples.Vec(a), nil); got != (a == "") {
			t.Fatalf("Same of %q and nil: %v", a, got)
		}
		if got := bits.Same(nil, samples.Vec(a)); got != (a == "") {
			t.Fatalf("Same of nil and %q: %v", a, got)
		}
	}
	if !bits.Same(nil, nil) {
		t.Fatal("nil has the bits of nil")
	}
	// Of one length, and different in just one place.
	for n := 1; n <= 130; n++ {
		v, w := samples.Vec(strings.Repeat("0", n)), samples.Vec(strings.Repeat("0", n-1)+"1")
		if bits.Same(v, w) || bits.Same(w, v) {
			t.Fatal(n)
		}
	}
	// The same bits, told in other ways.
	v := bits.New()
	v.Num(math.MaxUint64, 3)
	w, _ := samples.Vec("0111000").Cut(1, 4)
	u, _ := bits.Of([]byte{7}, 3)
	if !bits.Same(v, w) || !bits.Same(w, u) || !bits.Same(v, samples.Vec("111")) {
		t.Fatal(v.Text(), w.Text(), u.Text())
	}
}

func TestP1_3Reader(t *testing.T) {
	rnd := rand.New(rand.NewPCG(5, 6))
	for _, s := range texts() {
		for range 20 {
			r := bits.Read(samples.Vec(s))
			at := 0
			for range 40 {
				if r.Left() != len(s)-at {
					t.Fatalf("Left at %d of %d: %d", at, len(s), r.Left())
				}
				k := rnd.IntN(70) - 2
				x, e := r.Num(k)
				k = min(max(k, 0), 64)
				if k > len(s)-at {
					if x != 0 || e != api.ErrForm {
						t.Fatalf("Num(%d) at %d of %d: %d, %v", k, at, len(s), x, e)
					}
					continue
				}
				if e != api.OK || lowest(x, k) != s[at:at+k] || x>>k != 0 {
					t.Fatalf("Num(%d) at %d of %d: %x, %v", k, at, len(s), x, e)
				}
				at += k
			}
		}
	}
}

func TestP1_3Edges(t *testing.T) {
	v := samples.Vec(strings.Repeat("1", 70))
	r := bits.Read(v)
	for _, k := range []int{math.MinInt, -1, 0} {
		if x, e := r.Num(k); x != 0 || e != api.OK || r.Left() != 70 {
			t.Fatal(k, x, e)
		}
	}
	if x, e := r.Num(math.MaxInt); x != math.MaxUint64 || e != api.OK || r.Left() != 6 {
		t.Fatal(x, e)
	}
	for _, k := range []int{7, 64, 65, math.MaxInt} {
		if x, e := r.Num(k); x != 0 || e != api.ErrForm || r.Left() != 6 {
			t.Fatal(k, x, e)
		}
	}
	if x, e := r.Num(6); x != 63 || e != api.OK || r.Left() != 0 {
		t.Fatal(x, e)
	}
	if x, e := r.Num(0); x != 0 || e != api.OK {
		t.Fatal("no bits are left, and none are asked for", x, e)
	}
	if x, e := r.Num(1); x != 0 || e != api.ErrForm {
		t.Fatal(x, e)
	}
}

func TestP1_3AddedBehind(t *testing.T) {
	for _, s := range texts() {
		v := samples.Vec(s)
		r, other := bits.Read(v), bits.Read(v)
		v.Num(math.MaxUint64, 64)
		v.Join(v)
		if r.Left() != len(s) {
			t.Fatalf("Left: %d, want %d", r.Left(), len(s))
		}
		for i := range s {
			if x, e := r.Num(1); e != api.OK || x != uint64(s[i]-'0') {
				t.Fatalf("the bit %d of %q: %d, %v", i, s, x, e)
			}
		}
		if x, e := r.Num(1); x != 0 || e != api.ErrForm {
			t.Fatal("what was added behind Read was read", x, e)
		}
		if other.Left() != len(s) {
			t.Fatal("one reader moved another one")
		}
		check(t, v, strings.Repeat(s+strings.Repeat("1", 64), 2))
	}
}

func TestP1Nil(t *testing.T) {
	var v *bits.Vec
	v.Add(1)
	v.Num(3, 2)
	v.Join(samples.Vec("1"))
	v.Join(v)
	if v.Len() != 0 || v.Ones() != 0 || len(v.Bytes()) != 0 || v.Text() != "" {
		t.Fatal(v.Len(), v.Ones(), v.Bytes(), v.Text())
	}
	for _, i := range []int{-1, 0, 1, math.MaxInt} {
		if v.At(i) != -1 {
			t.Fatal(i, v.At(i))
		}
	}
	for _, x := range [][2]int{{0, 0}, {-1, 5}, {2, 1}} {
		if c, e := v.Cut(x[0], x[1]); c != nil || e != api.ErrNone {
			t.Fatal(x, c, e)
		}
	}
	r := bits.Read(nil)
	if r != nil || r.Left() != 0 {
		t.Fatal(r, r.Left())
	}
	for _, k := range []int{-1, 0, 1, 65} {
		if x, e := r.Num(k); x != 0 || e != api.ErrNone {
			t.Fatal(k, x, e)
		}
	}
}

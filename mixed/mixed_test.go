package mixed_test

import (
	"math"
	"math/rand/v2"
	"slices"
	"strings"
	"testing"

	"parquetry/api"
	"parquetry/bits"
	"parquetry/mixed"
	"parquetry/samples"
)

// signs are those of the kinds, in their order.
const signs = "()[]"

// noKinds are numbers of no kind.
var noKinds = []int{math.MinInt, -4, -1, 4, 5, 40, math.MaxInt}

// kindsOf answers the kinds of the letters of s.
func kindsOf(s string) []int {
	var kinds []int
	for _, sign := range s {
		kinds = append(kinds, strings.IndexRune(signs, sign))
	}
	return kinds
}

// checkWord holds all that w tells against its text.
func checkWord(t *testing.T, w *mixed.Word, s string) {
	t.Helper()
	if w.Text() != s || w.Len() != len(s) {
		t.Fatalf("of %s: Text %s, Len %d", samples.Short(s), samples.Short(w.Text()), w.Len())
	}
	for i, kind := range kindsOf(s) {
		if w.At(i) != kind {
			t.Fatalf("of %s: At(%d) %d", samples.Short(s), i, w.At(i))
		}
	}
	for _, i := range none(len(s) - 1) {
		if w.At(i) != -1 {
			t.Fatalf("of %s: At(%d) %d", samples.Short(s), i, w.At(i))
		}
	}
	for kind, sign := range signs {
		if w.Count(kind) != strings.Count(s, string(sign)) {
			t.Fatalf("of %s: Count(%d) %d", samples.Short(s), kind, w.Count(kind))
		}
	}
	for _, kind := range noKinds {
		if w.Count(kind) != 0 {
			t.Fatalf("of %s: Count(%d) %d", samples.Short(s), kind, w.Count(kind))
		}
	}
	if w.Bits().Text() != bitsText(s) {
		t.Fatalf("of %s: Bits %s", samples.Short(s), samples.Short(w.Bits().Text()))
	}
}

// bitsText is the text of the bits of the word of s.
func bitsText(s string) string {
	return strings.NewReplacer("(", "00", ")", "10", "[", "01", "]", "11").Replace(s)
}

// none are places that there aren't, where last is the last one.
func none(last int) []int {
	return []int{math.MinInt, math.MinInt / 2, -api.Block, -2, -1, last + 1, last + 2, last + api.Block, math.MaxInt / 2, math.MaxInt}
}

// wordTexts are texts, balanced or not, long ones too.
func wordTexts() []string {
	var all []string
	for n := range 6 {
		all = append(all, samples.Texts(signs, n)...)
	}
	r := rand.New(rand.NewPCG(21, 22))
	for _, n := range []int{31, 32, 33, 63, 64, 65, 256, 1000} {
		var b strings.Builder
		for range n {
			b.WriteByte(signs[r.IntN(len(signs))])
		}
		all = append(all, b.String())
	}
	return all
}

func TestP4_1Parse(t *testing.T) {
	for _, s := range wordTexts() {
		checkWord(t, samples.Word(t, s), s)
	}
}

func TestP4_1ParseOther(t *testing.T) {
	others := []string{" ", "x", "{", "\x00", "\n", "0", "\xff", "\\", "'", "*", "Z", "^", "\u00e9", "\u27e8", "\uff08", "\xa8"}
	for _, ahead := range []string{"", "(", "]", "([)]", strings.Repeat("[]", 300)} {
		for _, other := range others {
			for _, behind := range []string{"", "(", "]]", other, " x"} {
				w, at, e := mixed.Parse(ahead + other + behind)
				if w != nil || at != len(ahead) || e != api.ErrText {
					t.Fatalf("Parse of %q: %d, %v", ahead+other+behind, at, e)
				}
			}
		}
	}
}

func TestP4_1Add(t *testing.T) {
	for _, s := range wordTexts() {
		w := mixed.New()
		checkNothing(t, w)
		for _, kind := range kindsOf(s) {
			if e := w.Add(kind); e != api.OK {
				t.Fatal(kind, e)
			}
		}
		checkWord(t, w, s)
		kinds := kindsOf(s)
		if e := w.Add(kinds...); e != api.OK || !slices.Equal(kinds, kindsOf(s)) {
			t.Fatal(s, e)
		}
		clear(kinds)
		if e := w.Add(); e != api.OK {
			t.Fatal(e)
		}
		checkWord(t, w, s+s)
	}
}

// checkNothing holds a word without letters against that.
func checkNothing(t *testing.T, w *mixed.Word) {
	t.Helper()
	if w == nil {
		t.Fatal("no word")
	}
	checkWord(t, w, "")
}

func TestP4_1AddNoKind(t *testing.T) {
	for _, s := range []string{"", "(", "([)]"} {
		w := samples.Word(t, s)
		for _, wrong := range noKinds {
			for _, kinds := range [][]int{{wrong}, {mixed.Open, wrong}, {wrong, mixed.Right}, {0, 1, 2, 3, wrong}, {wrong, wrong}} {
				if e := w.Add(kinds...); e != api.ErrRange {
					t.Fatalf("Add(%v): %v", kinds, e)
				}
				checkWord(t, w, s)
			}
		}
		if e := w.Add(mixed.Open, mixed.Close, mixed.Left, mixed.Right); e != api.OK {
			t.Fatal(e)
		}
		checkWord(t, w, s+signs)
	}
}

func TestP4_1BitsAndBack(t *testing.T) {
	for _, s := range wordTexts() {
		v := samples.Word(t, s).Bits()
		w, e := mixed.Of(v)
		if e != api.OK || v.Text() != bitsText(s) {
			t.Fatalf("Of the bits of %s: %v", samples.Short(s), e)
		}
		checkWord(t, w, s)
		v.Add(1)
		checkWord(t, w, s)
		if w, e := mixed.Of(v); w != nil || e != api.ErrForm {
			t.Fatalf("Of %d bits: %v", v.Len(), e)
		}
	}
}

func TestP4_1OfNoBits(t *testing.T) {
	for _, v := range []*bits.Vec{nil, bits.New()} {
		w, e := mixed.Of(v)
		if e != api.OK {
			t.Fatal(e)
		}
		checkNothing(t, w)
		if e := w.Add(mixed.Left); e != api.OK || w.Text() != "[" || v.Len() != 0 {
			t.Fatal(e, w.Text(), v.Len())
		}
	}
}

func TestP4_1ItsOwnBits(t *testing.T) {
	w := samples.Word(t, "([)]")
	v := w.Bits()
	v.Num(math.MaxUint64, 64)
	checkWord(t, w, "([)]")
	if e := w.Add(mixed.Open); e != api.OK || v.Len() != 72 {
		t.Fatal(e, v.Len())
	}
	checkWord(t, w, "([)](")
}

func TestP4_1Nil(t *testing.T) {
	var w *mixed.Word
	if w.Len() != 0 || w.Text() != "" || w.Bits().Len() != 0 {
		t.Fatal(w.Len(), w.Text(), w.Bits().Len())
	}
	for _, i := range append(none(0), 0) {
		if w.At(i) != -1 || w.Count(i) != 0 {
			t.Fatal(i, w.At(i), w.Count(i))
		}
		if e := w.Add(i); e != api.ErrNone {
			t.Fatal(i, e)
		}
	}
	if e := w.Add(); e != api.ErrNone {
		t.Fatal(e)
	}
}

func TestKinds(t *testing.T) {
	if mixed.Open != 0 || mixed.Close != 1 || mixed.Left != 2 || mixed.Right != 3 {
		t.Fatal(mixed.Open, mixed.Close, mixed.Left, mixed.Right)
	}
}

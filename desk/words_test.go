package desk_test

import (
	"encoding/hex"
	"math/rand/v2"
	"regexp"
	"slices"
	"strconv"
	"strings"
	"testing"

	"parquetry/desk"
	"parquetry/samples"
)

// numberForm is what the document tells of a Number, hexForm of Unhex's signs.
var (
	numberForm = regexp.MustCompile(`^(?:0|-?[1-9][0-9]{0,8})$`)
	hexForm    = regexp.MustCompile(`^(?:[0-9a-f][0-9a-f])*$`)
)

// checkNumber holds Number of w against its form; it answers whether it is one.
func checkNumber(t *testing.T, w string) bool {
	t.Helper()
	want := 0
	ok := numberForm.MatchString(w)
	if ok {
		want, _ = strconv.Atoi(w)
	}
	if x, is := desk.Number(w); x != want || is != ok {
		t.Fatalf("Number(%q): %d, %v, want %d, %v", samples.Short(w), x, is, want, ok)
	}
	return ok
}

// TestP25_1NumberShort asks for all short words of some signs.
func TestP25_1NumberShort(t *testing.T) {
	count := 0
	for n := range 7 {
		for _, w := range samples.Texts("-019+x", n) {
			if checkNumber(t, w) {
				count++
			}
		}
	}
	// Of k digits there are 2 times 3^(k-1), and as many with - ahead of one
	// digit less.
	if want := 1 + 2*(1+3+9+27+81+243) + 2*(1+3+9+27+81); count != want {
		t.Errorf("there are %d, want %d", count, want)
	}
}

// TestP25_1NumberKnown names the edges, case by case.
func TestP25_1NumberKnown(t *testing.T) {
	for _, x := range []struct {
		w    string
		want int
		ok   bool
	}{
		{"0", 0, true}, {"7", 7, true}, {"10", 10, true}, {"-1", -1, true}, {"-10", -10, true}, {"123456789", 123456789, true},
		{"999999999", 999999999, true}, {"-999999999", -999999999, true},
		{"1000000000", 0, false}, {"-1000000000", 0, false}, {"9223372036854775808", 0, false},
		{"9223372036854775807", 0, false}, {"-9223372036854775808", 0, false}, {"-9223372036854775807", 0, false},
		{"18446744073709551616", 0, false}, {"18446744073709551617", 0, false}, {"4294967297", 0, false},
		{"0000000001", 0, false}, {"01", 0, false}, {"00", 0, false}, {"-0", 0, false}, {"-01", 0, false}, {"-00", 0, false},
		{"", 0, false}, {"-", 0, false}, {"--1", 0, false}, {"1-", 0, false}, {"1-1", 0, false}, {"+1", 0, false}, {"+0", 0, false},
		{" 1", 0, false}, {"1 ", 0, false}, {"1 2", 0, false}, {"1\n", 0, false}, {"\t1", 0, false}, {"1\x00", 0, false}, {"- 1", 0, false},
		{"1_000", 0, false}, {"0x1", 0, false}, {"1e3", 0, false}, {"1.0", 0, false}, {"a", 0, false}, {"NaN", 0, false},
		{"\u0661", 0, false}, {"\uff11", 0, false}, {"\u22121", 0, false}, {"\xff", 0, false}, {"1\xff", 0, false},
		{strings.Repeat("9", 1000), 0, false}, {strings.Repeat("0", 1000), 0, false}, {"-" + strings.Repeat("1", 1<<20), 0, false},
	} {
		if got, ok := desk.Number(x.w); got != x.want || ok != x.ok {
			t.Errorf("Number(%q): %d, %v", samples.Short(x.w), got, ok)
		}
		checkNumber(t, x.w)
	}
}

// TestP25_1NumberAny writes some numbers of all sizes, with what may be wrong.
func TestP25_1NumberAny(t *testing.T) {
	r := rand.New(rand.NewPCG(251, 252))
	for range 20000 {
		x := int(r.Int64()) >> r.IntN(64)
		if r.IntN(2) == 0 {
			x = -x
		}
		w := strconv.Itoa(x)
		checkNumber(t, w)
		at := r.IntN(len(w) + 1)
		checkNumber(t, w[:at]+string("-+0 5.\n"[r.IntN(7)])+w[at:])
		checkNumber(t, w[at:])
	}
}

// TestP25_1Hex holds all bytes, and lists of some, against another program's
// signs, and back.
func TestP25_1Hex(t *testing.T) {
	r := rand.New(rand.NewPCG(253, 254))
	var lists [][]byte
	for b := range 256 {
		lists = append(lists, []byte{byte(b)})
	}
	for n := range 200 {
		p := make([]byte, n)
		for i := range p {
			p[i] = byte(r.IntN(256))
		}
		lists = append(lists, p)
	}
	for _, p := range lists {
		given := slices.Clone(p)
		s := desk.Hex(p)
		if s != hex.EncodeToString(p) || !slices.Equal(p, given) {
			t.Fatalf("Hex of %x: %s", given, s)
		}
		back, ok := desk.Unhex(s)
		if !ok || !slices.Equal(back, p) {
			t.Fatalf("Unhex of %s: %x, %v", s, back, ok)
		}
		for i := range back {
			back[i]++
		}
		if again, _ := desk.Unhex(s); !slices.Equal(again, p) {
			t.Fatalf("Unhex of %s isn't new memory", s)
		}
	}
	if s := desk.Hex(nil); s != "" {
		t.Error(s)
	}
	if p, ok := desk.Unhex(""); len(p) != 0 || !ok {
		t.Error(p, ok)
	}
	if s := desk.Hex([]byte{0x50, 0x51, 0x0a, 0xf0, 0x9c}); s != "50510af09c" {
		t.Error(s)
	}
}

// TestP25_1Unhex asks for all two bytes as signs, and for wrong ones at each
// place.
func TestP25_1Unhex(t *testing.T) {
	check := func(s string) {
		t.Helper()
		var want []byte
		ok := hexForm.MatchString(s)
		if ok {
			want, _ = hex.DecodeString(s)
		}
		if p, is := desk.Unhex(s); is != ok || !slices.Equal(p, want) || !ok && p != nil {
			t.Fatalf("Unhex of %q: %x, %v", s, p, is)
		}
	}
	for a := range 256 {
		check(string([]byte{byte(a)}))
		for b := range 256 {
			check(string([]byte{byte(a), byte(b)}))
		}
	}
	const right = "0123456789abcdef"
	for i := range len(right) {
		check(right[:i])
		for _, sign := range "AFG /:@`g-\n\u00e9" {
			check(right[:i] + string(sign) + right[i+1:])
			check(right[:i] + string(sign) + right[i:])
		}
	}
}

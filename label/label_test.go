package label_test

import (
	"math"
	"math/rand/v2"
	"slices"
	"strconv"
	"strings"
	"testing"

	"parquetry/api"
	"parquetry/bits"
	"parquetry/label"
	"parquetry/perm"
	"parquetry/samples"
)

// keeps tells whether the darts of each edge go to those of one edge.
func keeps(l []int) bool {
	for e := range len(l) / 2 {
		if l[2*e]/2 != l[2*e+1]/2 {
			return false
		}
	}
	return len(l)%2 == 0
}

// width is the least k such that 2^k is n or more.
func width(n int) int {
	k := 0
	for len(strings.Repeat("x", 1<<k)) < n {
		k++
	}
	return k
}

// names is a list's names as the document tells them, as a text.
func names(l []int) string {
	var s strings.Builder
	k := width(len(l) / 2)
	for e := range len(l) / 2 {
		to := l[2*e]
		digits := strconv.FormatInt(int64(to/2), 2)
		digits = strings.Repeat("0", max(0, k-len(digits))) + digits
		for i := range k {
			s.WriteByte(digits[len(digits)-1-i])
		}
		s.WriteString(strconv.Itoa(to % 2))
	}
	return s.String()
}

// check checks that a list's names are told, and read again.
func check(t *testing.T, l []int) {
	t.Helper()
	p, edges := samples.Perm(t, l), len(l)/2
	v, err := label.Encode(p)
	if err != api.OK || v.Len() != label.Size(edges) {
		t.Fatalf("Encode of %d edges: %d bits, %v, not %d", edges, v.Len(), err, label.Size(edges))
	}
	if v.Text() != names(l) {
		t.Fatalf("Encode(%v): %s, not %s", l, v.Text(), names(l))
	}
	q, err := label.Decode(v, edges)
	if err != api.OK || !perm.Same(p, q) {
		t.Fatalf("Decode of Encode of %d edges: %v", edges, err)
	}
}

func TestP20_1Width(t *testing.T) {
	for n := range 5000 {
		if got := label.Width(n); got != width(n) {
			t.Fatalf("Width(%d): %d, not %d", n, got, width(n))
		}
	}
	for k := 2; k < 63; k++ {
		n := 1 << k
		if a, b, c := label.Width(n-1), label.Width(n), label.Width(n+1); a != k || b != k || c != k+1 {
			t.Fatalf("Widths around 2^%d: %d, %d, %d", k, a, b, c)
		}
	}
	for n, want := range map[int]int{-1: 0, math.MinInt: 0, 0: 0, 1: 0, 2: 1, 3: 2, 4: 2, 5: 3, 65536: 16, 65537: 17, math.MaxInt: 63} {
		if got := label.Width(n); got != want {
			t.Errorf("Width(%d): %d, not %d", n, got, want)
		}
	}
}

func TestP20_1Size(t *testing.T) {
	for edges := range 3000 {
		if got, want := label.Size(edges), edges*(width(edges)+1); got != want {
			t.Fatalf("Size(%d): %d, not %d", edges, got, want)
		}
	}
	for edges, want := range map[int]int{-1: 0, math.MinInt: 0, 0: 0, 1: 1, 2: 4, 3: 9, 65535: 65535 * 17, 65536: 65536 * 17, 65537: 0, math.MaxInt: 0} {
		if got := label.Size(edges); got != want {
			t.Errorf("Size(%d): %d, not %d", edges, got, want)
		}
	}
}

func TestP20_1EncodeOfAllPermutations(t *testing.T) {
	for n := range 8 {
		for _, l := range samples.Perms(n) {
			if keeps(l) {
				check(t, l)
				continue
			}
			if v, err := label.Encode(samples.Perm(t, l)); v != nil || err != api.ErrPerm {
				t.Fatalf("Encode(%v): %v, %v", l, v, err)
			}
		}
	}
}

func TestP20_1EncodeOfLargeOnes(t *testing.T) {
	r := rand.New(rand.NewPCG(20, 1))
	for range 300 {
		check(t, samples.Names(r.IntN, r.IntN(400)))
	}
	for _, edges := range []int{1023, 1024, 1025, 30000, api.MaxEdges - 1, api.MaxEdges} {
		l := samples.Names(r.IntN, edges)
		check(t, l)
		l[2*edges-1], l[1] = l[1], l[2*edges-1]
		if v, err := label.Encode(samples.Perm(t, l)); v != nil || err != api.ErrPerm {
			t.Fatalf("Encode of two edges' darts mixed: %v, %v", v, err)
		}
	}
}

func TestP20_1EncodeRefuses(t *testing.T) {
	if v, err := label.Encode(nil); v != nil || err != api.ErrNone {
		t.Errorf("Encode(nil): %v, %v", v, err)
	}
	for _, l := range [][]int{{0}, {0, 1, 2}, {1, 2, 0}, {0, 1, 3, 2, 4}, {1, 2, 3, 0}, {0, 2, 1, 3}, {0, 3, 2, 1}} {
		if v, err := label.Encode(samples.Perm(t, l)); v != nil || err != api.ErrPerm {
			t.Errorf("Encode(%v): %v, %v", l, v, err)
		}
	}
}

// decoded is Decode as the document tells it, of a text that has the right
// size: a list, or none.
func decoded(s string, edges int) []int {
	k := width(edges)
	l, met := []int{}, make([]bool, edges)
	for e := range edges {
		part := s[e*(k+1) : (e+1)*(k+1)]
		edge := 0
		for i := range k {
			edge += int(part[i]-'0') << i
		}
		if edge >= edges || met[edge] {
			return nil
		}
		met[edge] = true
		turned := int(part[k] - '0')
		l = append(l, 2*edge+turned, 2*edge+1-turned)
	}
	return l
}

func TestP20_2DecodeOfAllBits(t *testing.T) {
	for edges := range 5 {
		right, want := 0, 1
		for e := range edges {
			want *= 2 * (e + 1)
		}
		for _, s := range samples.Texts("01", label.Size(edges)) {
			p, err := label.Decode(samples.Vec(s), edges)
			l := decoded(s, edges)
			if l == nil {
				if p != nil || err != api.ErrPerm {
					t.Fatalf("Decode(%s, %d): %v, %v", s, edges, p, err)
				}
				continue
			}
			right++
			if err != api.OK || !slices.Equal(p.List(), l) {
				t.Fatalf("Decode(%s, %d): %v, %v, not %v", s, edges, p.List(), err, l)
			}
			if v, err := label.Encode(p); v.Text() != s || err != api.OK {
				t.Fatalf("Encode of Decode(%s): %s, %v", s, v.Text(), err)
			}
		}
		if right != want {
			t.Fatalf("%d edges have %d names, not %d", edges, right, want)
		}
	}
}

func TestP20_2DecodeOfOtherSizes(t *testing.T) {
	for edges := range 12 {
		for n := range 70 {
			p, err := label.Decode(samples.Vec(strings.Repeat("0", n)), edges)
			if n != label.Size(edges) && (p != nil || err != api.ErrRange) {
				t.Fatalf("Decode of %d bits, %d: %v, %v", n, edges, p, err)
			}
		}
	}
	for _, edges := range []int{-1, math.MinInt, api.MaxEdges + 1, math.MaxInt} {
		for _, v := range []*bits.Vec{nil, bits.New(), samples.Vec("01")} {
			if p, err := label.Decode(v, edges); p != nil || err != api.ErrRange {
				t.Fatalf("Decode(%d): %v, %v", edges, p, err)
			}
		}
	}
}

func TestP20_2DecodeOfChangedNames(t *testing.T) {
	r := rand.New(rand.NewPCG(20, 2))
	for range 3000 {
		edges := 1 + r.IntN(70)
		s := []byte(names(samples.Names(r.IntN, edges)))
		i := r.IntN(len(s))
		s[i] ^= 1
		p, err := label.Decode(samples.Vec(string(s)), edges)
		turned := i%(width(edges)+1) == width(edges)
		switch {
		case turned && (err != api.OK || !slices.Equal(p.List(), decoded(string(s), edges))):
			t.Fatalf("Decode of %d edges, one turned: %v", edges, err)
		case !turned && (err != api.ErrPerm || p != nil):
			t.Fatalf("Decode of %d edges, one changed: %v, %v", edges, p, err)
		}
	}
}

func TestP20_2NilHasNoBits(t *testing.T) {
	for _, v := range []*bits.Vec{nil, bits.New()} {
		if p, err := label.Decode(v, 0); p == nil || p.Len() != 0 || err != api.OK {
			t.Errorf("Decode of no bits: %v, %v", p, err)
		}
		if p, err := label.Decode(v, 1); p != nil || err != api.ErrRange {
			t.Errorf("Decode of no bits, one edge: %v, %v", p, err)
		}
	}
	if v, err := label.Encode(perm.One(0)); v == nil || v.Len() != 0 || err != api.OK {
		t.Errorf("Encode of no darts: %v, %v", v, err)
	}
}

func TestP20_2MemoryIsNew(t *testing.T) {
	v := samples.Vec("1001")
	p, _ := label.Decode(v, 2)
	v.Add(1)
	if !slices.Equal(p.List(), []int{2, 3, 1, 0}) {
		t.Fatalf("the permutation changes with the bits: %v", p.List())
	}
	one, _ := label.Encode(p)
	one.Add(1, 1)
	if two, _ := label.Encode(p); two.Text() != "1001" {
		t.Fatalf("an answer shares memory with an earlier one: %s", two.Text())
	}
}

func TestExamples(t *testing.T) {
	v, err := label.Encode(samples.Perm(t, []int{2, 3, 1, 0}))
	if v.Text() != "1001" || err != api.OK {
		t.Errorf("Encode(2, 3, 1, 0): %s, %v", v.Text(), err)
	}
}

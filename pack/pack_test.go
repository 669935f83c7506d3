package pack_test

import (
	"bytes"
	"encoding/hex"
	"math"
	"math/big"
	"math/rand/v2"
	"slices"
	"strings"
	"testing"

	"parquetry/api"
	"parquetry/bits"
	"parquetry/coder"
	"parquetry/pack"
	"parquetry/samples"
)

// skewed answers a text of n bits, of which so many of a hundred are 1, but
// those behind the same two bits as ahead of them go on alike.
func skewed(r *rand.Rand, n, ones int) string {
	s := make([]byte, n)
	for i := range s {
		s[i] = '0'
		if r.IntN(100) < ones {
			s[i] = '1'
		}
		if i > 2 && s[i-1] == s[i-2] && r.IntN(3) > 0 {
			s[i] = s[i-3]
		}
	}
	return string(s)
}

// follower answers a text of n bits in which each mostly goes by so many bits
// ahead of it.
func follower(r *rand.Rand, n, order int) string {
	next := make([]byte, 1<<order)
	for i := range next {
		next[i] = byte(r.IntN(2))
	}
	s, ahead := make([]byte, n), 0
	for i := range s {
		bit := next[ahead]
		if r.IntN(8) == 0 {
			bit = 1 - bit
		}
		s[i] = '0' + bit
		ahead = (2*ahead + int(bit)) % len(next)
	}
	return string(s)
}

// number is a number's bytes as the document tells them, from its digits to
// the base 128.
func number(x uint64) []byte {
	n, base, digit := new(big.Int).SetUint64(x), big.NewInt(128), new(big.Int)
	var p []byte
	for {
		n.DivMod(n, base, digit)
		if n.Sign() == 0 {
			return append(p, byte(digit.Int64()))
		}
		p = append(p, byte(digit.Int64())+0x80)
	}
}

// numbers answers edges of a number's bytes, and others.
func numbers() []uint64 {
	all := []uint64{0, 1, 2, 3, 63, 300, 1<<32 + 7, math.MaxUint64 - 1, math.MaxUint64}
	for k := range 64 {
		all = append(all, 1<<k-1, 1<<k, 1<<k+1)
	}
	r := rand.New(rand.NewPCG(19, 1))
	for range 2000 {
		all = append(all, r.Uint64()>>r.IntN(64))
	}
	return all
}

func TestP19_1NumPutsANumberBehind(t *testing.T) {
	for _, x := range numbers() {
		want := number(x)
		if got := pack.Num(nil, x); !bytes.Equal(got, want) {
			t.Fatalf("Num(%d): %x, not %x", x, got, want)
		}
		if got := pack.Num([]byte{1, 0, 200}, x); !bytes.Equal(got, append([]byte{1, 0, 200}, want...)) {
			t.Fatalf("Num behind three bytes (%d): %x", x, got)
		}
	}
}

func TestP19_1NumLeavesWhatItIsGiven(t *testing.T) {
	room := []byte{7, 8, 9, 9, 9, 9, 9, 9, 9, 9, 9, 9, 9, 9}
	whole := slices.Clone(room)
	first := pack.Num(room[:2], 300)
	second := pack.Num(room[:2], math.MaxUint64)
	if !bytes.Equal(room, whole) {
		t.Fatalf("the spare room is written: %v", room)
	}
	room[0], room[2] = 1, 1
	if !bytes.Equal(first, []byte{7, 8, 0xac, 2}) || len(second) != 12 || second[0] != 7 || second[2] != 0xff {
		t.Fatalf("the answers share memory with what was handed in: %v, %v", first, second)
	}
	third := pack.Num(first, 1)
	third[0] = 99
	if first[0] != 7 {
		t.Fatal("the answer shares memory with the list that it is put behind")
	}
}

func TestP19_1GetNumReadsWhatNumPuts(t *testing.T) {
	for _, x := range numbers() {
		p := pack.Num(nil, x)
		for _, behind := range []string{"", "\x00", "\x80", "\xff\xff", "abc"} {
			got, taken, err := pack.GetNum(append(slices.Clone(p), behind...))
			if got != x || taken != len(p) || err != api.OK {
				t.Fatalf("GetNum(%x, %x): %d, %d, %v, not %d, %d", p, behind, got, taken, err, x, len(p))
			}
		}
		for i := range p {
			if got, taken, err := pack.GetNum(p[:i]); got != 0 || taken != 0 || err != api.ErrForm {
				t.Fatalf("GetNum(%x), cut short: %d, %d, %v", p[:i], got, taken, err)
			}
		}
	}
}

// getNumber is GetNum as the document tells it: only what would be written so
// is a number.
func getNumber(p []byte) (uint64, int, api.Errno) {
	last := slices.IndexFunc(p, func(b byte) bool { return b < 128 })
	if last < 0 {
		return 0, 0, api.ErrForm
	}
	n := new(big.Int)
	for i := last; i >= 0; i-- {
		n.Lsh(n, 7).Add(n, big.NewInt(int64(p[i]%128)))
	}
	if !n.IsUint64() || !bytes.Equal(number(n.Uint64()), p[:last+1]) {
		return 0, 0, api.ErrForm
	}
	return n.Uint64(), last + 1, api.OK
}

func TestP19_1GetNumRefuses(t *testing.T) {
	nines := strings.Repeat("ff", 9)
	for text, want := range map[string]api.Errno{
		"": api.ErrForm, "80": api.ErrForm, "8080": api.ErrForm, nines: api.ErrForm,
		"8000": api.ErrForm, "ff00": api.ErrForm, "808000": api.ErrForm, nines + "00": api.ErrForm,
		nines + "02": api.ErrForm, nines + "7f": api.ErrForm, nines + "8100": api.ErrForm, nines + "8101": api.ErrForm,
		nines + "8001": api.ErrForm, strings.Repeat("80", 40) + "01": api.ErrForm, strings.Repeat("80", 9) + "02": api.ErrForm,
		nines + "01": api.OK, "00": api.OK, "0000": api.OK, "7f": api.OK, "8001": api.OK, strings.Repeat("80", 9) + "01": api.OK,
	} {
		p, _ := hex.DecodeString(text)
		x, taken, err := pack.GetNum(p)
		if err != want || err != api.OK && (x != 0 || taken != 0) {
			t.Errorf("GetNum(%s): %d, %d, %v, not %v", text, x, taken, err, want)
		}
	}
	if _, _, err := pack.GetNum(nil); err != api.ErrForm {
		t.Errorf("GetNum(nil): %v", err)
	}
}

func TestP19_1GetNumOfAnyBytes(t *testing.T) {
	r := rand.New(rand.NewPCG(19, 11))
	some := []byte{0, 1, 2, 63, 127, 128, 129, 130, 255}
	for range 200000 {
		p := make([]byte, r.IntN(13))
		for i := range p {
			if p[i] = some[r.IntN(len(some))]; p[i] < 128 && r.IntN(4) > 0 {
				p[i] += 128
			}
		}
		x, taken, err := pack.GetNum(p)
		if wx, wt, we := getNumber(p); x != wx || taken != wt || err != we {
			t.Fatalf("GetNum(%x): %d, %d, %v, not %d, %d, %v", p, x, taken, err, wx, wt, we)
		}
	}
}

// octets answers the bits as bytes, the first of each eight its lowest.
func octets(s string) []byte {
	p := make([]byte, (len(s)+7)/8)
	for i, sign := range s {
		if sign == '1' {
			p[i/8] += 1 << (i % 8)
		}
	}
	return p
}

// ways answers, by their modes, all that the bits may be written as.
func ways(t *testing.T, s string) [][]byte {
	t.Helper()
	all := [][]byte{append([]byte{0}, octets(s)...)}
	for k := range coder.MaxOrder + 1 {
		code, err := coder.Encode(samples.Vec(s), k)
		if err != api.OK {
			t.Fatalf("Encode(%s, %d): %v", s, k, err)
		}
		way := append([]byte{byte(k + 1)}, number(uint64(code.Len()))...)
		all = append(all, append(way, octets(code.Text())...))
	}
	return all
}

// fewest answers which of them is told.
func fewest(all [][]byte) int {
	least := 0
	for mode, way := range all {
		if len(way) < len(all[least]) {
			least = mode
		}
	}
	return least
}

// checkPack checks both Packs of the bits, and that they are read, and no
// other way to write them.
func checkPack(t *testing.T, s string) int {
	t.Helper()
	all := ways(t, s)
	least := fewest(all)
	if got := pack.Pack(samples.Vec(s), true); !bytes.Equal(got, all[0]) {
		t.Fatalf("Pack(%s), plain: %x, not %x", s, got, all[0])
	}
	if got := pack.Pack(samples.Vec(s), false); !bytes.Equal(got, all[least]) {
		t.Fatalf("Pack(%s): %x, not %x", s, got, all[least])
	}
	for mode, way := range all {
		read(t, way, s, false, mode == least, api.ErrCanon)
		read(t, way, s, true, mode == 0, api.ErrForm)
	}
	return least
}

// read checks that the bits are read of p, or that they are refused.
func read(t *testing.T, p []byte, s string, plain, right bool, refused api.Errno) {
	t.Helper()
	v, taken, err := pack.Unpack(p, len(s), plain)
	switch {
	case right && (err != api.OK || taken != len(p) || v.Text() != s):
		t.Fatalf("Unpack(%x, %d, %v): %s, %d, %v, not %s", p, len(s), plain, v.Text(), taken, err, s)
	case !right && (err != refused || taken != 0 || v != nil):
		t.Fatalf("Unpack(%x, %d, %v): %s, %d, %v, not %v", p, len(s), plain, v.Text(), taken, err, refused)
	}
}

func TestP19_2PackOfFewBits(t *testing.T) {
	for n := range 12 {
		for _, s := range samples.Texts("01", n) {
			checkPack(t, s)
		}
	}
}

func TestP19_2PackTakesTheFewestBytes(t *testing.T) {
	r := rand.New(rand.NewPCG(19, 2))
	met := make([]int, coder.MaxOrder+2)
	differs := 0
	check := func(s string) {
		mode := checkPack(t, s)
		met[mode]++
		if order, _ := coder.Least(samples.Vec(s)); mode > 0 && mode != order+1 {
			differs++
		}
	}
	for range 600 {
		check(skewed(r, r.IntN(1200), r.IntN(101)))
	}
	for order := range coder.MaxOrder + 1 {
		for range 12 {
			check(follower(r, 5000, order))
		}
	}
	if slices.Contains(met, 0) || differs == 0 {
		t.Fatalf("of the modes so many are met: %v; so often it isn't the order of the fewest bits: %d", met, differs)
	}
}

func TestP19_2LargePacks(t *testing.T) {
	r := rand.New(rand.NewPCG(19, 22))
	for _, ones := range []int{0, 3, 50, 100} {
		s := skewed(r, 1<<18+5, ones)
		p := pack.Pack(samples.Vec(s), false)
		read(t, p, s, false, true, api.OK)
		if len(p) > 1+(len(s)+7)/8 {
			t.Fatalf("%d bits take %d bytes", len(s), len(p))
		}
	}
}

// formed tells whether p has the form of n bits' Pack, whatever they are.
func formed(p []byte, n int, plain bool) bool {
	if len(p) == 0 || p[0] > coder.MaxOrder+1 || plain && p[0] > 0 {
		return false
	}
	size, rest := uint64(n), p[1:]
	if p[0] > 0 {
		x, taken, err := getNumber(rest)
		if err != api.OK {
			return false
		}
		size, rest = x, rest[taken:]
	}
	if size > 8*uint64(len(rest)) {
		return false
	}
	last := size / 8
	return size%8 == 0 || rest[last]>>(size%8) == 0
}

// outcomes holds Unpack of n bits against what the document tells, of the
// packs of all of them.
func outcomes(t *testing.T, n int, plain bool, lists func(packs [][]byte, try func(p []byte))) {
	t.Helper()
	var packs [][]byte
	whose := map[string]string{}
	for _, s := range samples.Texts("01", n) {
		p := pack.Pack(samples.Vec(s), plain)
		packs = append(packs, p)
		whose[string(p)] = s
	}
	lists(packs, func(p []byte) {
		want, size := api.ErrForm, 0
		if formed(p, n, plain) {
			want = api.ErrCanon
			for size = range len(p) + 1 {
				if _, ok := whose[string(p[:size])]; ok {
					want = api.OK
					break
				}
			}
		}
		v, taken, err := pack.Unpack(p, n, plain)
		if err != want {
			t.Fatalf("Unpack(%x, %d, %v): %v, not %v", p, n, plain, err, want)
		}
		if err == api.OK && (v.Text() != whose[string(p[:size])] || taken != size) {
			t.Fatalf("Unpack(%x, %d, %v): %s, %d", p, n, plain, v.Text(), taken)
		}
		if err != api.OK && (v != nil || taken != 0) {
			t.Fatalf("Unpack(%x, %d, %v): %s, %d beside an error", p, n, plain, v.Text(), taken)
		}
	})
}

// changes tries each pack, cut short, with more behind it, and with any one
// byte of it changed.
func changes(packs [][]byte, try func(p []byte)) {
	for _, p := range packs {
		for i := range p {
			try(p[:i])
			for _, bit := range []int{0, 1, 2, 3, 4, 5, 6, 7} {
				q := slices.Clone(p)
				q[i] ^= 1 << bit
				try(q)
				try(append(q, 0))
			}
		}
		try(p)
		try(append(slices.Clone(p), 0))
		try(append(slices.Clone(p), 255, 1))
	}
}

// anyBytes tries all lists of up to four of some bytes.
func anyBytes(_ [][]byte, try func(p []byte)) {
	some := []byte{0, 1, 2, 3, 6, 9, 10, 128, 129, 255}
	lists := [][]byte{nil}
	for range 5 {
		var longer [][]byte
		for _, p := range lists {
			try(p)
			for _, b := range some {
				longer = append(longer, append(slices.Clone(p), b))
			}
		}
		lists = longer
	}
}

func TestP19_2UnpackIsStrict(t *testing.T) {
	for n := range 10 {
		for _, plain := range []bool{false, true} {
			outcomes(t, n, plain, changes)
			outcomes(t, n, plain, anyBytes)
		}
	}
}

func TestP19_2UnpackOfChangedCodes(t *testing.T) {
	r := rand.New(rand.NewPCG(19, 3))
	for _, s := range []string{strings.Repeat("0", 300), strings.Repeat("01", 200), skewed(r, 700, 4), skewed(r, 500, 90)} {
		p := pack.Pack(samples.Vec(s), false)
		if p[0] == 0 {
			t.Fatalf("%s is stored", s)
		}
		for i := range p {
			for bit := range 8 {
				q := slices.Clone(p)
				q[i] ^= 1 << bit
				v, taken, err := pack.Unpack(q, len(s), false)
				if err == api.OK && (taken != len(q) || !bytes.Equal(pack.Pack(v, false), q)) {
					t.Fatalf("Unpack(%x): read, though it isn't what Pack tells", q)
				}
				want := api.ErrForm
				if formed(q, len(s), false) {
					want = api.ErrCanon
				}
				if err != api.OK && (err != want || v != nil || taken != 0) {
					t.Fatalf("Unpack(%x): %v, %d, %v, not %v", q, v, taken, err, want)
				}
			}
			read(t, p[:i], s, false, false, api.ErrForm)
		}
		for n := range 2 * len(s) {
			v, taken, err := pack.Unpack(p, n, false)
			if n != len(s) && err == api.OK && bytes.Equal(pack.Pack(v, false), p) && taken == len(p) {
				continue // other bits may well be written alike
			}
			if n != len(s) && (v != nil || taken != 0 || err != api.ErrCanon) {
				t.Fatalf("Unpack(%x, %d): %v, %d, %v", p, n, v, taken, err)
			}
		}
		v, taken, err := pack.Unpack(append(slices.Clone(p), 1, 2, 3), len(s), false)
		if v.Text() != s || taken != len(p) || err != api.OK {
			t.Fatalf("Unpack(%x) with more behind it: %d, %v", p, taken, err)
		}
	}
}

func TestP19_2UnpackRefuses(t *testing.T) {
	for _, c := range []struct {
		p     string
		n     int
		plain bool
		want  api.Errno
	}{
		{"00", -1, false, api.ErrRange}, {"", -1, true, api.ErrRange}, {"", math.MinInt, false, api.ErrRange},
		{"00", 1<<24 + 1, false, api.ErrRange}, {"", 1<<24 + 1, true, api.ErrRange}, {"ff", math.MaxInt, false, api.ErrRange},
		{"", 0, false, api.ErrForm}, {"", 1 << 24, true, api.ErrForm}, {"00", 1 << 24, false, api.ErrForm},
		{"0a", 0, false, api.ErrForm}, {"ff", 0, false, api.ErrForm}, {"0b0201", 0, false, api.ErrForm},
		{"010202", 0, true, api.ErrForm}, {"0aff", 3, true, api.ErrForm},
		{"00", 1, false, api.ErrForm}, {"0002", 1, false, api.ErrForm}, {"0002", 1, true, api.ErrForm}, {"00ff", 7, true, api.ErrForm},
		{"01", 4, false, api.ErrForm}, {"0180", 4, false, api.ErrForm}, {"018000", 4, false, api.ErrForm}, {"010a", 4, false, api.ErrForm},
		{"01ffffffffffffffff7f00", 4, false, api.ErrForm}, {"01ffffffffffffffffff0100", 4, false, api.ErrForm},
		{"01808080808080808080010000", 4, false, api.ErrForm}, {"0180808080808080808002ff", 4, false, api.ErrForm},
		{"010206", 0, false, api.ErrForm},
		{"010202", 0, false, api.ErrCanon}, {"090202", 0, false, api.ErrCanon}, {"0100", 0, false, api.ErrCanon}, {"0100", 1 << 24, false, api.ErrCanon},
		{"000000000000", 40, false, api.ErrCanon},
		{"00", 0, true, api.OK}, {"00ff", 0, false, api.OK}, {"0001", 1, true, api.OK}, {"00ff", 8, false, api.OK},
		{"000000000000", 40, true, api.OK},
	} {
		p, _ := hex.DecodeString(c.p)
		v, taken, err := pack.Unpack(p, c.n, c.plain)
		if err != c.want || err != api.OK && (v != nil || taken != 0) {
			t.Errorf("Unpack(%s, %d, %v): %v, %d, %v, not %v", c.p, c.n, c.plain, v, taken, err, c.want)
		}
	}
}

func TestP19_2UnpackOfAsManyBitsAsCanBe(t *testing.T) {
	v := bits.New()
	for range 1 << 18 {
		v.Num(0, 64)
	}
	p := pack.Pack(v, false)
	w, taken, err := pack.Unpack(p, 1<<24, false)
	if !bits.Same(v, w) || taken != len(p) || err != api.OK || p[0] != 1 {
		t.Fatalf("2^24 noughts: %d bytes, %d, %v", len(p), taken, err)
	}
	v.Add(0)
	if _, _, err := pack.Unpack(pack.Pack(v, true), 1<<24+1, true); err != api.ErrRange {
		t.Fatalf("2^24 and 1 bits: %v", err)
	}
}

func TestP19_2NilHasNoBits(t *testing.T) {
	for _, plain := range []bool{false, true} {
		if got := pack.Pack(nil, plain); !bytes.Equal(got, []byte{0}) {
			t.Errorf("Pack(nil, %v): %x", plain, got)
		}
		if v, taken, err := pack.Unpack([]byte{0}, 0, plain); v == nil || v.Len() != 0 || taken != 1 || err != api.OK {
			t.Errorf("Unpack of no bits: %v, %d, %v", v, taken, err)
		}
		if v, taken, err := pack.Unpack(nil, 0, plain); v != nil || taken != 0 || err != api.ErrForm {
			t.Errorf("Unpack(nil): %v, %d, %v", v, taken, err)
		}
	}
}

func TestP19_2MemoryIsNew(t *testing.T) {
	for _, s := range []string{"10110", strings.Repeat("0", 500)} {
		v := samples.Vec(s)
		p := pack.Pack(v, false)
		kept := slices.Clone(p)
		v.Add(1, 1, 1)
		q := pack.Pack(samples.Vec(s), false)
		q[0] = 77
		if !bytes.Equal(p, kept) {
			t.Fatal("what Pack told changes with what it was handed")
		}
		room := append(slices.Clone(p), 5, 5, 5)
		w, _, _ := pack.Unpack(room[:len(p)], len(s), false)
		if !bytes.Equal(room, append(slices.Clone(kept), 5, 5, 5)) {
			t.Fatal("what Unpack was handed is changed")
		}
		clear(room)
		if w.Text() != s {
			t.Fatal("the bits change with the bytes that they were read from")
		}
	}
}

func TestExamples(t *testing.T) {
	if got := pack.Num(nil, 300); !bytes.Equal(got, []byte{0xac, 0x02}) {
		t.Errorf("Num(300): %x", got)
	}
	if got := pack.Pack(bits.New(), false); !bytes.Equal(got, []byte{0}) {
		t.Errorf("Pack of no bits: %x", got)
	}
}

package coder_test

import (
	"hash/crc32"
	"math"
	"math/rand/v2"
	"strings"
	"testing"

	"parquetry/api"
	"parquetry/bits"
	"parquetry/coder"
	"parquetry/samples"
)

// model is the code as the document tells it, with texts for bits, and a
// context told by the text of the bits ahead.
type model struct {
	order     int
	low, high int64
	ahead     string
	counts    map[string]*[2]int64
	code      strings.Builder
	waiting   int
}

func newModel(order int) *model {
	return &model{order: order, high: 1<<32 - 1, ahead: strings.Repeat("0", order), counts: map[string]*[2]int64{}}
}

// context answers the counts of the next bit's context.
func (m *model) context() *[2]int64 {
	if m.counts[m.ahead] == nil {
		m.counts[m.ahead] = &[2]int64{1, 1}
	}
	return m.counts[m.ahead]
}

// mid is the last number that stands for a nought.
func (m *model) mid() int64 {
	c := m.context()
	return m.low + (m.high-m.low+1)*c[0]/(c[0]+c[1]) - 1
}

func (m *model) put(bit string) {
	m.code.WriteString(bit)
	m.code.WriteString(strings.Repeat(map[string]string{"0": "1", "1": "0"}[bit], m.waiting))
	m.waiting = 0
}

// add goes on by a bit, 0 or 1.
func (m *model) add(bit int) {
	c, mid := m.context(), m.mid()
	if bit == 0 {
		m.high = mid
	} else {
		m.low = mid + 1
	}
	c[bit]++
	if c[0]+c[1] == 65536 {
		c[0], c[1] = c[0]/2+c[0]%2, c[1]/2+c[1]%2
	}
	m.ahead = (m.ahead + string("01"[bit]))[1:]
	for m.double() {
		m.low, m.high = m.low*2, m.high*2+1
	}
}

// double does what is done ahead of doubling, or tells that nothing holds.
func (m *model) double() bool {
	switch {
	case m.high < 1<<31:
		m.put("0")
	case m.low >= 1<<31:
		m.put("1")
		m.low, m.high = m.low-1<<31, m.high-1<<31
	case m.low >= 1<<30 && m.high < 3<<30:
		m.waiting++
		m.low, m.high = m.low-1<<30, m.high-1<<30
	default:
		return false
	}
	return true
}

// end answers the whole code.
func (m *model) end() string {
	m.waiting++
	if m.low < 1<<30 {
		m.put("0")
	} else {
		m.put("1")
	}
	return m.code.String()
}

// modelCode answers the code of order k of s.
func modelCode(s string, k int) string {
	m := newModel(k)
	for _, sign := range s {
		m.add(int(sign - '0'))
	}
	return m.end()
}

// check holds Encode and Decode of s against the code that it should have.
func check(t *testing.T, s string, k int, want string) {
	t.Helper()
	code, e := coder.Encode(samples.Vec(s), k)
	if e != api.OK || code.Text() != want {
		t.Fatalf("Encode of %s, %d: %s, %v, want %s", samples.Short(s), k, samples.Short(code.Text()), e, samples.Short(want))
	}
	if v, e := coder.Decode(code, len(s), k); e != api.OK || v.Text() != s {
		t.Fatalf("Decode of %s, %d, %d: %s, %v, want %s", samples.Short(want), len(s), k, samples.Short(v.Text()), e, samples.Short(s))
	}
}

func TestP18_1AllShort(t *testing.T) {
	for n := range 10 {
		for _, s := range samples.Texts("01", n) {
			for k := range coder.MaxOrder + 1 {
				check(t, s, k, modelCode(s, k))
			}
		}
	}
}

// likely answers n bits, of which a one has so many of a hundred chances.
func likely(r *rand.Rand, n, ones int) string {
	s := make([]byte, n)
	for i := range s {
		s[i] = '0'
		if r.IntN(100) < ones {
			s[i] = '1'
		}
	}
	return string(s)
}

func TestP18_1Random(t *testing.T) {
	r := rand.New(rand.NewPCG(61, 62))
	for _, n := range []int{30, 31, 32, 33, 63, 64, 65, 300, 3000} {
		for _, ones := range []int{0, 1, 10, 50, 90, 99, 100} {
			s := likely(r, n, ones)
			for k := range coder.MaxOrder + 1 {
				check(t, s, k, modelCode(s, k))
			}
		}
	}
}

// pinned are codes that were worked out by hand, or by another program.
var pinned = []struct {
	s    string
	k    int
	want string
}{
	{"", 0, "01"},
	{"", 8, "01"},
	{"0", 0, "001"},
	{"1", 8, "101"},
	{"01", 1, "0110"},
	{"10", 2, "1001"},
	{"0110", 3, "011011"},
	{"1111111", 0, "1110"},
	{"1111111", 1, "11110"},
	{"1111111", 2, "111110"},
	{"1111111", 3, "1111101"},
	{"1111111", 8, "111111101"},
	{"0101010101010101", 0, "0110010100111000111"},
	{"0101010101010101", 1, "01100101000"},
	{"0101010101010101", 2, "0110010001"},
	{"0101010101010101", 3, "0110001100"},
	{"0101010101010101", 8, "01100011100100"},
	{"000000010000000100000001", 0, "00011101011011001"},
	{"000000010000000100000001", 1, "00011100111111101"},
	{"000000010000000100000001", 2, "0001110011000001101"},
	{"000000010000000100000001", 3, "0001110010011111101"},
	{"000000010000000100000001", 8, "00011100011101010111"},
	{"1100110011001100110011", 0, "1011000100010010111100000"},
	{"1100110011001100110011", 1, "11000101100011101001010111"},
	{"1100110011001100110011", 2, "110010101101"},
	{"1100110011001100110011", 3, "110011000100"},
	{"1100110011001100110011", 8, "1100110011010100"},
}

// pinnedEdges are codes, that another program worked out, of bits that lead
// just to the bounds between the ways to double.
var pinnedEdges = []struct {
	s    string
	k    int
	want string
}{
	// Behind the last bit high is just 2^31.
	{"000001010001000000000001110010001110", 0, "0010100001101110011011010011111001"},
	{"0000110001001101000010111100000110", 2, "00101111100010110010110011001001001111"},
	{"00010000101011001111011100011000000", 5, "0011001111010000010101001010111111101"},
	// Behind the last bit high is just 3 times 2^30, and low between 2^30 and 2^31.
	{"000111000010001101000011000100101000", 0, "001111100101000100010001101000101010"},
	{"000001101001000000010110011010000010", 1, "001010000111000100011011000010101100"},
	{"000100000011000111101111001001001", 4, "00110011100011011001100011111100100"},
	// Behind the last bit low is just 2^30.
	{"000000011101100100001111101100111000", 0, "000111111110110011000110101010100010010"},
	{"000000010000000110100011101101111010", 1, "000111010000101000110011000101110010010"},
	{"000000001101111110100110011110111000", 3, "00011011101110000100000010111111001100"},
}

func TestP18_1Pinned(t *testing.T) {
	for _, x := range append(pinned, pinnedEdges...) {
		check(t, x.s, x.k, x.want)
		for _, more := range []string{"0", "1", "0110"} {
			check(t, x.s+more, x.k, modelCode(x.s+more, x.k))
		}
	}
}

// mixedUp answers n bits of a row of numbers, each made of the one ahead: a
// one where all bits of the mask are noughts.
func mixedUp(n, mask int) string {
	s, x := make([]byte, n), 1
	for i := range s {
		x = (x*1103515245 + 12345) % (1 << 31)
		s[i] = '0'
		if x>>16&mask == 0 {
			s[i] = '1'
		}
	}
	return string(s)
}

// pinnedLong are lengths and checksums of codes that another program worked
// out; of those of 70000 bits and more counts are halved.
var pinnedLong = []struct {
	n, mask, k, bits int
	sum              uint32
}{
	{1000, 1, 0, 1004, 0xbfd70413},
	{1000, 1, 5, 1050, 0xd4eafab3},
	{1000, 7, 2, 542, 0x1db0f28d},
	{1000, 7, 8, 610, 0xc8d76638},
	{70000, 1, 0, 70008, 0x8e57d440},
	{70000, 15, 0, 23302, 0xbf0905b3},
	{70000, 15, 1, 23309, 0x820aafaa},
	{200000, 255, 0, 7273, 0x223c932b},
	{200000, 255, 1, 7278, 0x3fb770d8},
	{200000, 255, 2, 7285, 0x03698e41},
	{200000, 255, 5, 7317, 0x49c901c6},
	{200000, 255, 8, 7363, 0x8e9738d0},
	{200000, 0, 0, 22, 0x792c2dd4},
	{200000, 0, 8, 30, 0x792c2d2b},
}

func TestP18_1PinnedLong(t *testing.T) {
	for _, x := range pinnedLong {
		s := mixedUp(x.n, x.mask)
		code, e := coder.Encode(samples.Vec(s), x.k)
		if e != api.OK || code.Len() != x.bits || crc32.ChecksumIEEE(code.Bytes()) != x.sum {
			t.Errorf("Encode of %d, %d, %d: %d bits, %v", x.n, x.mask, x.k, code.Len(), e)
		}
		if v, e := coder.Decode(code, x.n, x.k); e != api.OK || v.Text() != s {
			t.Errorf("Decode of %d, %d, %d: %v", x.n, x.mask, x.k, e)
		}
	}
}

// TestP18_1Halved goes just up to, and beyond, where counts are halved.
func TestP18_1Halved(t *testing.T) {
	for _, sign := range []string{"0", "1"} {
		for _, n := range []int{65532, 65533, 65534, 65535, 65536, 98300, 98301, 98302, 98303, 98304} {
			s := strings.Repeat(sign, n) + "0110"
			check(t, s, 0, modelCode(s, 0))
			check(t, s, 1, modelCode(s, 1))
		}
	}
}

// TestP18_1Waiting has many bits wait: each bit is such that the middle of
// all numbers stays within the span.
func TestP18_1Waiting(t *testing.T) {
	for k := range coder.MaxOrder + 1 {
		m, s := newModel(k), ""
		add := func(bit int) {
			s += string("01"[bit])
			m.add(bit)
		}
		add(0)
		add(1)
		most := 0
		for range 2000 {
			if m.mid() < 1<<31 {
				add(1)
			} else {
				add(0)
			}
			most = max(most, m.waiting)
		}
		if most < 20 {
			t.Fatal(k, most)
		}
		for _, end := range []string{s, s + "0", s + "1"} {
			check(t, end, k, modelCode(end, k))
		}
	}
}

func TestP18_2EncodeOption(t *testing.T) {
	for _, k := range []int{math.MinInt, -2, -1, coder.MaxOrder + 1, coder.MaxOrder + 2, 64, math.MaxInt} {
		for _, v := range []*bits.Vec{nil, bits.New(), samples.Vec("0110")} {
			if code, e := coder.Encode(v, k); code != nil || e != api.ErrOption {
				t.Errorf("Encode of %s, %d: %v", v.Text(), k, e)
			}
			for _, n := range []int{math.MinInt, -1, 0, 4, 1<<24 + 1, math.MaxInt} {
				if w, e := coder.Decode(v, n, k); w != nil || e != api.ErrOption {
					t.Errorf("Decode of %s, %d, %d: %v", v.Text(), n, k, e)
				}
			}
		}
	}
}

func TestP18_2DecodeRange(t *testing.T) {
	for _, n := range []int{math.MinInt, -2, -1, 1<<24 + 1, 1<<24 + 2, math.MaxInt} {
		for _, v := range []*bits.Vec{nil, bits.New(), samples.Vec("01"), samples.Vec("11")} {
			if w, e := coder.Decode(v, n, 2); w != nil || e != api.ErrRange {
				t.Errorf("Decode of %s, %d: %v", v.Text(), n, e)
			}
		}
	}
	for _, k := range []int{0, coder.MaxOrder} {
		most := bits.New()
		for most.Len() < 1<<24 {
			most.Num(0, 64)
		}
		code, e := coder.Encode(most, k)
		if e != api.OK {
			t.Fatal(e)
		}
		if w, e := coder.Decode(code, 1<<24, k); e != api.OK || !bits.Same(w, most) {
			t.Fatal(k, e)
		}
		if w, e := coder.Decode(samples.Vec("01"), 1<<24, k); w != nil || e != api.ErrCanon {
			t.Fatal(k, e)
		}
	}
}

// TestP18_2DecodeAll asks of all short texts whether they are codes.
func TestP18_2DecodeAll(t *testing.T) {
	var all []string
	for n := range 11 {
		all = append(all, samples.Texts("01", n)...)
	}
	for k := range coder.MaxOrder + 1 {
		for n := range 6 {
			codes := map[string]string{}
			for _, s := range samples.Texts("01", n) {
				codes[modelCode(s, k)] = s
			}
			if len(codes) != 1<<n {
				t.Fatal(k, n, len(codes))
			}
			for _, code := range all {
				want, is := codes[code]
				w, e := coder.Decode(samples.Vec(code), n, k)
				if is && (e != api.OK || w.Text() != want) || !is && (w != nil || e != api.ErrCanon) {
					t.Fatalf("Decode of %s, %d, %d: %s, %v, want %s", code, n, k, w.Text(), e, want)
				}
			}
		}
	}
}

// TestP18_2DecodeOther asks for codes with a bit turned, with one too few or
// too many, and with another count of bits or order.
func TestP18_2DecodeOther(t *testing.T) {
	r := rand.New(rand.NewPCG(63, 64))
	for _, ones := range []int{0, 5, 50, 95} {
		for k := range coder.MaxOrder + 1 {
			s := likely(r, 200, ones)
			code := modelCode(s, k)
			for i := range code {
				turned := code[:i] + string('0'+'1'-code[i]) + code[i+1:]
				checkOther(t, turned, len(s), k)
				checkOther(t, code[:i], len(s), k)
			}
			for _, behind := range []string{"0", "1", "00", "01", strings.Repeat("0", 64), strings.Repeat("1", 64)} {
				if w, e := coder.Decode(samples.Vec(code+behind), len(s), k); w != nil || e != api.ErrCanon {
					t.Fatalf("Decode of a code of order %d, and %s: %v", k, behind, e)
				}
			}
			for n := range 2 * len(s) {
				checkOther(t, code, n, k)
			}
			checkOther(t, code, len(s), coder.MaxOrder-k)
		}
	}
}

// checkOther holds Decode against what its answer's code is.
func checkOther(t *testing.T, code string, n, k int) {
	t.Helper()
	w, e := coder.Decode(samples.Vec(code), n, k)
	switch {
	case e == api.ErrCanon && w == nil:
	case e == api.OK && w.Len() == n && modelCode(w.Text(), k) == code:
	default:
		t.Fatalf("Decode of %s, %d, %d: %s, %v", samples.Short(code), n, k, samples.Short(w.Text()), e)
	}
}

func TestP18_2Least(t *testing.T) {
	r := rand.New(rand.NewPCG(65, 66))
	all := []string{"", "0", "1", "0110", strings.Repeat("0", 16), strings.Repeat("01", 300), strings.Repeat("00010111", 200), strings.Repeat("0000000000000001", 100)}
	for _, x := range pinned {
		all = append(all, x.s)
	}
	for _, n := range []int{5, 50, 500} {
		for _, ones := range []int{2, 30, 50, 80} {
			all = append(all, likely(r, n, ones), strings.Repeat(likely(r, 5, ones), n/5), strings.Repeat(likely(r, 25, ones), n/5))
		}
	}
	found := [coder.MaxOrder + 1]int{}
	for _, s := range all {
		order, least := 0, modelCode(s, 0)
		for k := 1; k <= coder.MaxOrder; k++ {
			if code := modelCode(s, k); len(code) < len(least) {
				order, least = k, code
			}
		}
		found[order]++
		if k, code := coder.Least(samples.Vec(s)); k != order || code.Text() != least {
			t.Fatalf("Least of %s: %d, %s, want %d, %s", samples.Short(s), k, samples.Short(code.Text()), order, samples.Short(least))
		}
	}
	if found[0] == 0 || found[1] == 0 || found[3] == 0 || found[coder.MaxOrder] == 0 {
		t.Fatal(found)
	}
}

func TestP18_2Memory(t *testing.T) {
	v := samples.Vec("0110100110010110")
	want := modelCode(v.Text(), 2)
	for range 2 {
		code, _ := coder.Encode(v, 2)
		w, e := coder.Decode(code, v.Len(), 2)
		_, least := coder.Least(v)
		if e != api.OK || v.Text() != "0110100110010110" || code.Text() != want {
			t.Fatal(e, v.Text(), code.Text())
		}
		w.Add(1, 0, 1)
		least.Add(1, 1)
		if v.Text() != "0110100110010110" || code.Text() != want {
			t.Fatal(v.Text(), code.Text())
		}
		code.Add(1)
	}
}

func TestP18_2Nil(t *testing.T) {
	for k := range coder.MaxOrder + 1 {
		if code, e := coder.Encode(nil, k); e != api.OK || code.Text() != "01" {
			t.Fatal(k, e)
		}
		if w, e := coder.Decode(samples.Vec("01"), 0, k); e != api.OK || w == nil || w.Len() != 0 {
			t.Fatal(k, e)
		}
		for n := range 3 {
			for _, v := range []*bits.Vec{nil, bits.New()} {
				if w, e := coder.Decode(v, n, k); w != nil || e != api.ErrCanon {
					t.Fatal(n, k, e)
				}
			}
		}
	}
	if k, code := coder.Least(nil); k != 0 || code.Text() != "01" {
		t.Fatal(k, code.Text())
	}
}

func TestExamples(t *testing.T) {
	if coder.MaxOrder != 8 {
		t.Fatal(coder.MaxOrder)
	}
	if code, e := coder.Encode(samples.Vec(strings.Repeat("0", 16)), 0); e != api.OK || code.Text() != "000001" {
		t.Fatal(code.Text(), e)
	}
}

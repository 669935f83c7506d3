// Package bits is layer 1: bits in a row.
package bits

import (
	mathbits "math/bits"
	"slices"

	"parquetry/api"
)

const (
	wordBits = 64
	byteBits = 8
)

// Vec is bits in a row. Behind the last bit its words hold noughts alone:
// Same, Ones and Bytes lean on that, and so does adding by a bitwise or.
type Vec struct {
	words []uint64
	n     int
}

// Reader reads from the first bit on. Its vector is a copy, so that nothing
// that happens to the one it was made of reaches it.
type Reader struct {
	vec *Vec
	at  int
}

// New answers a vector without bits.
func New() *Vec { return &Vec{} }

// Of answers the first n bits of p.
func Of(p []byte, n int) (*Vec, api.Errno) {
	if n < 0 || len(p) != bytesFor(n) {
		return nil, api.ErrRange
	}
	if n%byteBits != 0 && p[len(p)-1]>>(n%byteBits) != 0 {
		return nil, api.ErrForm
	}
	v := New()
	for i, b := range p {
		v.Num(uint64(b), min(byteBits, n-i*byteBits))
	}
	return v, api.OK
}

// bytesFor is how many bytes n bits need; n+7 could wrap round.
func bytesFor(n int) int {
	if n%byteBits == 0 {
		return n / byteBits
	}
	return n/byteBits + 1
}

// low is the k lowest bits, for k from 0 to 64.
func low(k int) uint64 { return ^uint64(0) >> (wordBits - k) }

// count is k as a count of a number's bits.
func count(k int) int { return min(max(k, 0), wordBits) }

// Len is how many bits there are.
func (v *Vec) Len() int {
	if v == nil {
		return 0
	}
	return v.n
}

// At is the bit at the place i, or -1.
func (v *Vec) At(i int) int {
	if i < 0 || i >= v.Len() {
		return -1
	}
	return int(v.get(i, 1))
}

// get is the k bits from the place at on, the lowest first; they are there,
// and k is from 1 to 64.
func (v *Vec) get(at, k int) uint64 {
	i, shift := at/wordBits, at%wordBits
	x := v.words[i] >> shift
	if shift+k > wordBits {
		x |= v.words[i+1] << (wordBits - shift)
	}
	return x & low(k)
}

// Add puts bits behind; what isn't 0 counts as 1.
func (v *Vec) Add(bits ...int) {
	for _, b := range bits {
		if b == 0 {
			v.Num(0, 1)
		} else {
			v.Num(1, 1)
		}
	}
}

// Num puts the lowest k bits of x behind, the lowest first.
func (v *Vec) Num(x uint64, k int) {
	k = count(k)
	if v == nil || k == 0 {
		return
	}
	x &= low(k)
	shift := v.n % wordBits
	if shift == 0 {
		v.words = append(v.words, x)
	} else {
		v.words[len(v.words)-1] |= x << shift
		if shift+k > wordBits {
			v.words = append(v.words, x>>(wordBits-shift))
		}
	}
	v.n += k
}

// Join puts w's bits behind.
func (v *Vec) Join(w *Vec) {
	if w == nil {
		return
	}
	// w may be v: how many bits it has is asked before it grows, and Num
	// leaves out what has grown into its last word since.
	n := w.n
	for i, x := range w.words {
		v.Num(x, min(wordBits, n-i*wordBits))
	}
}

// Cut answers the bits from the place from on, ahead of to.
func (v *Vec) Cut(from, to int) (*Vec, api.Errno) {
	if v == nil {
		return nil, api.ErrNone
	}
	if from < 0 || from > to || to > v.n {
		return nil, api.ErrRange
	}
	c := New()
	for at := from; at < to; at += wordBits {
		k := min(wordBits, to-at)
		c.Num(v.get(at, k), k)
	}
	return c, api.OK
}

// Ones is how many bits are 1.
func (v *Vec) Ones() int {
	if v == nil {
		return 0
	}
	ones := 0
	for _, x := range v.words {
		ones += mathbits.OnesCount64(x)
	}
	return ones
}

// Bytes answers the bits, eight a byte, the first one its lowest.
func (v *Vec) Bytes() []byte {
	p := make([]byte, bytesFor(v.Len()))
	for i := range p {
		at := i * byteBits
		p[i] = byte(v.get(at, min(byteBits, v.n-at)))
	}
	return p
}

// Text answers the bits as 0 and 1.
func (v *Vec) Text() string {
	s := make([]byte, v.Len())
	for i := range s {
		s[i] = '0' + byte(v.At(i))
	}
	return string(s)
}

// Same tells whether both have the same bits; nil has none.
func Same(v, w *Vec) bool {
	if v.Len() != w.Len() {
		return false
	}
	return v.Len() == 0 || slices.Equal(v.words, w.words)
}

// Read answers a reader of the bits that v has now.
func Read(v *Vec) *Reader {
	if v == nil {
		return nil
	}
	return &Reader{vec: &Vec{words: slices.Clone(v.words), n: v.n}}
}

// Num reads the next k bits, the lowest first.
func (r *Reader) Num(k int) (uint64, api.Errno) {
	if r == nil {
		return 0, api.ErrNone
	}
	k = count(k)
	if k > r.Left() {
		return 0, api.ErrForm
	}
	if k == 0 {
		return 0, api.OK
	}
	x := r.vec.get(r.at, k)
	r.at += k
	return x, api.OK
}

// Left is how many bits are left.
func (r *Reader) Left() int {
	if r == nil {
		return 0
	}
	return r.vec.Len() - r.at
}

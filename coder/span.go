package coder

import "parquetry/bits"

// Numbers have so many bits; they are kept in greater ones, for their
// products.
const (
	numberBits = 32
	quarter    = 1 << (numberBits - 2)
	half       = 2 * quarter
)

// The ways to double: each is how many quarters of all numbers lie ahead of
// those that are doubled.
const (
	lower = iota
	middle
	upper
)

// doubled is where a way to double takes a number: ahead of all its halves.
func doubled(x uint64, way int) uint64 { return 2 * (x - uint64(way)*quarter) }

// span is the numbers from low to high: it stands for the bits so far.
type span struct{ low, high uint64 }

// newSpan answers that of all numbers.
func newSpan() *span { return &span{high: 2*half - 1} }

// mid is the last number of the part of a span that stands for a nought.
func (s *span) mid(c counts) uint64 {
	return s.low + (s.high-s.low+1)*c.noughts()/c.all() - 1
}

// narrow leaves what stands for a bit.
func (s *span) narrow(bit int, mid uint64) {
	if bit == 0 {
		s.high = mid
	} else {
		s.low = mid + 1
	}
}

// widen doubles a span as often as that can be done, and tells each way.
func (s *span) widen(tell func(way int)) {
doubling:
	for {
		way := lower
		switch {
		case s.high < half:
			way = lower
		case s.low >= half:
			way = upper
		case s.low >= quarter && s.high < half+quarter:
			way = middle
		default:
			break doubling
		}
		s.low, s.high = doubled(s.low, way), doubled(s.high, way)+1
		tell(way)
	}
}

// output is a code that is written, as far as its bits are sure.
type output struct {
	code    *bits.Vec
	waiting int // how many bits are the other ones of that which goes out next
}

// follow goes on behind a span that was doubled.
func (o *output) follow(way int) {
	switch way {
	case lower:
		o.put(0)
	case upper:
		o.put(1)
	case middle:
		o.waiting++
	}
}

// put lets a bit out, and what waits.
func (o *output) put(bit int) {
	o.code.Add(bit)
	for range o.waiting {
		o.code.Add(1 - bit)
	}
	o.waiting = 0
}

// end lets out what tells a quarter that lies within the last span.
func (o *output) end(low uint64) {
	o.waiting++
	if low < quarter {
		o.put(0)
	} else {
		o.put(1)
	}
}

// input is a code that is read: where it lies among the numbers.
type input struct {
	code  *bits.Vec
	read  int
	value uint64
}

// newInput answers that of a code that wasn't doubled yet.
func newInput(code *bits.Vec) *input {
	in := &input{code: code}
	for range numberBits {
		in.value = 2*in.value + in.next()
	}
	return in
}

// next is the next bit; behind the code stand noughts.
func (in *input) next() uint64 {
	bit := max(in.code.At(in.read), 0)
	in.read++
	return uint64(bit)
}

// follow goes on behind a span that was doubled.
func (in *input) follow(way int) { in.value = doubled(in.value, way) + in.next() }

// doublings is how often the numbers were doubled.
func (in *input) doublings() int { return in.read - numberBits }

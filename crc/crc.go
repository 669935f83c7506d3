// Package crc is layer 17: a checksum.
package crc

import (
	"parquetry/api"
)

const (
	start = 0xffffffff
	laid  = 0xedb88320
)

// Sum is a checksum, part by part.
type Sum struct {
	register uint32
	n        int
}

// New answers a sum of no bytes.
func New() *Sum { return &Sum{register: start} }

// Add takes the bytes of p.
func (s *Sum) Add(p []byte) {
	if s == nil {
		return
	}
	for _, b := range p {
		s.register = step(s.register ^ uint32(b))
	}
	s.n += len(p)
}

// step shifts a register by eight. The bit that goes out is made a mask of
// ones or noughts, since a branch on it would be guessed wrong half the time.
func step(register uint32) uint32 {
	for range 8 {
		register = register>>1 ^ laid&-(register&1)
	}
	return register
}

// Value is the checksum of all bytes so far.
func (s *Sum) Value() uint32 {
	if s == nil {
		return 0
	}
	return ^s.register
}

// Len is how many bytes these were.
func (s *Sum) Len() int {
	if s == nil {
		return 0
	}
	return s.n
}

// Copy answers another sum that goes on from here.
func (s *Sum) Copy() *Sum {
	if s == nil {
		return nil
	}
	return &Sum{register: s.register, n: s.n}
}

// Of is the checksum of p.
func Of(p []byte) uint32 {
	s := New()
	s.Add(p)
	return s.Value()
}

// Put answers p, and x behind it as four bytes, the lowest first.
func Put(p []byte, x uint32) []byte {
	// Without its spare room p can't take a byte more: the answer is new.
	return append(p[:len(p):len(p)], byte(x), byte(x>>8), byte(x>>16), byte(x>>24))
}

// Get answers the number that p's four bytes are.
func Get(p []byte) (uint32, api.Errno) {
	if len(p) != 4 {
		return 0, api.ErrForm
	}
	return uint32(p[0]) | uint32(p[1])<<8 | uint32(p[2])<<16 | uint32(p[3])<<24, api.OK
}

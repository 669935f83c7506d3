package crc_test

import (
	"bytes"
	"hash/crc32"
	"math"
	"math/rand/v2"
	"slices"
	"testing"

	"parquetry/api"
	"parquetry/crc"
)

// some answers n bytes, always the same.
func some(n int) []byte {
	r := rand.New(rand.NewPCG(7, uint64(n)))
	p := make([]byte, n)
	for i := range p {
		p[i] = byte(r.Uint32())
	}
	return p
}

func TestP17_1Of(t *testing.T) {
	for _, x := range []struct {
		bytes string
		want  uint32
	}{
		{"", 0},
		{"\x00", 0xd202ef8d},
		{"\xff", 0xff000000},
		{"a", 0xe8b7be43},
		{"123456789", 0xcbf43926},
		{"\x00\x00\x00\x00", 0x2144df1c},
		{"\xff\xff\xff\xff", 0xffffffff},
	} {
		if got := crc.Of([]byte(x.bytes)); got != x.want {
			t.Fatalf("Of(%q): %x, want %x", x.bytes, got, x.want)
		}
	}
	if crc.Of(nil) != 0 {
		t.Fatal(crc.Of(nil))
	}
	for b := range 256 {
		p := []byte{byte(b)}
		if got := crc.Of(p); got != crc32.ChecksumIEEE(p) {
			t.Fatalf("Of(%x): %x", p, got)
		}
	}
	for n := range 300 {
		if p := some(n); crc.Of(p) != crc32.ChecksumIEEE(p) {
			t.Fatalf("Of %d bytes: %x", n, crc.Of(p))
		}
	}
}

func TestP17_1Parts(t *testing.T) {
	p := some(40)
	for from := range len(p) + 1 {
		for to := from; to <= len(p); to++ {
			s := crc.New()
			if s.Value() != 0 || s.Len() != 0 {
				t.Fatal(s.Value(), s.Len())
			}
			s.Add(p[:from])
			if s.Value() != crc.Of(p[:from]) || s.Len() != from {
				t.Fatal(from, s.Value(), s.Len())
			}
			s.Add(nil)
			s.Add(p[from:to])
			s.Add([]byte{})
			s.Add(p[to:])
			if s.Value() != crc.Of(p) || s.Value() != crc.Of(p) || s.Len() != len(p) {
				t.Fatal(from, to, s.Value(), s.Len())
			}
		}
	}
}

func TestP17_1Copy(t *testing.T) {
	s := crc.New()
	s.Add([]byte("1234"))
	c := s.Copy()
	if c.Value() != crc.Of([]byte("1234")) || c.Len() != 4 {
		t.Fatal(c.Value(), c.Len())
	}
	s.Add([]byte("56789"))
	if c.Value() != crc.Of([]byte("1234")) || c.Len() != 4 {
		t.Fatal("a copy went on with its sum", c.Value(), c.Len())
	}
	c.Add([]byte("abc"))
	if c.Value() != crc.Of([]byte("1234abc")) || c.Len() != 7 {
		t.Fatal(c.Value(), c.Len())
	}
	if s.Value() != 0xcbf43926 || s.Len() != 9 {
		t.Fatal("a sum went on with its copy", s.Value(), s.Len())
	}
}

func TestP17_1KeepsNothing(t *testing.T) {
	p := some(100)
	given := slices.Clone(p)
	s := crc.New()
	s.Add(p)
	if !bytes.Equal(p, given) {
		t.Fatal("Add wrote over what it was given")
	}
	clear(p)
	s.Add(given)
	if s.Value() != crc.Of(slices.Concat(given, given)) {
		t.Fatal("Add kept what it was given")
	}
}

func TestP17_2Put(t *testing.T) {
	for _, x := range []struct {
		number uint32
		want   []byte
	}{
		{0, []byte{0, 0, 0, 0}},
		{1, []byte{1, 0, 0, 0}},
		{0x01020304, []byte{4, 3, 2, 1}},
		{0xcbf43926, []byte{0x26, 0x39, 0xf4, 0xcb}},
		{math.MaxUint32, []byte{0xff, 0xff, 0xff, 0xff}},
	} {
		for n := range 10 {
			p := some(n)
			if got := crc.Put(p, x.number); !bytes.Equal(got, slices.Concat(p, x.want)) {
				t.Fatalf("Put(%x, %x): %x", p, x.number, got)
			}
		}
		if got := crc.Put(nil, x.number); !bytes.Equal(got, x.want) {
			t.Fatalf("Put(nil, %x): %x", x.number, got)
		}
		if got, e := crc.Get(x.want); got != x.number || e != api.OK {
			t.Fatalf("Get(%x): %x, %v", x.want, got, e)
		}
	}
}

func TestP17_2PutIsNew(t *testing.T) {
	room := []byte{1, 2, 9, 9, 9, 9, 9, 9}
	p := room[:2]
	got := crc.Put(p, 0x01020304)
	if !bytes.Equal(room, []byte{1, 2, 9, 9, 9, 9, 9, 9}) {
		t.Fatalf("Put wrote into spare room: %x", room)
	}
	p[0] = 7
	if !bytes.Equal(got, []byte{1, 2, 4, 3, 2, 1}) {
		t.Fatalf("Put shares memory with what it was given: %x", got)
	}
	got[1] = 8
	if p[1] != 2 {
		t.Fatalf("Put shares memory with what it was given: %x", p)
	}
}

func TestP17_2Get(t *testing.T) {
	for n := range 12 {
		p := some(n)
		x, e := crc.Get(p)
		if n != 4 {
			if x != 0 || e != api.ErrForm {
				t.Fatalf("Get of %d bytes: %x, %v", n, x, e)
			}
			continue
		}
		if e != api.OK || !bytes.Equal(crc.Put(nil, x), p) {
			t.Fatalf("Get(%x): %x, %v", p, x, e)
		}
	}
	if x, e := crc.Get(nil); x != 0 || e != api.ErrForm {
		t.Fatal(x, e)
	}
}

func TestP17Nil(t *testing.T) {
	var s *crc.Sum
	s.Add([]byte{1, 2})
	s.Add(nil)
	if s.Value() != 0 || s.Len() != 0 || s.Copy() != nil {
		t.Fatal(s.Value(), s.Len(), s.Copy())
	}
}

package stream_test

import (
	"bytes"
	"math"
	"math/rand/v2"
	"runtime"
	"slices"
	"testing"

	"parquetry/api"
	"parquetry/canon"
	"parquetry/crc"
	"parquetry/dart"
	"parquetry/file"
	"parquetry/samples"
	"parquetry/stream"
)

// every answers all options, each at the place that is its byte.
func every() []file.Options {
	var all []file.Options
	for b := range 8 {
		all = append(all, file.Options{Tri: b%2 == 1, Plain: b/2%2 == 1, Labels: b/4 == 1})
	}
	return all
}

// sealed answers p and the checksum of it.
func sealed(p ...byte) []byte { return crc.Put(p, crc.Of(p)) }

// encoded answers the file of m, that there is.
func encoded(t *testing.T, m *dart.Map, o file.Options) []byte {
	t.Helper()
	p, err := file.Encode(m, o)
	if err != api.OK {
		t.Fatalf("Encode of %v, %d, %v: %v", m.List(), m.Root(), o, err)
	}
	return p
}

// sure is what the document tells of Sure, of all that came.
func sure(p []byte) api.Errno {
	switch {
	case len(p) > api.MaxFile:
		return api.ErrLarge
	case len(p) > 0 && p[0] != 0x50 || len(p) > 1 && p[1] != 0x51:
		return api.ErrForm
	case len(p) > 2 && p[2] > 7:
		return api.ErrOption
	}
	return api.OK
}

// short answers p, or its beginning.
func short(p []byte) []byte { return p[:min(len(p), 40)] }

// told checks what s tells of so many bytes that came, before it is over.
func told(t *testing.T, s *stream.Stream, n int, want api.Errno) {
	t.Helper()
	if s.Len() != n || s.Sure() != want || s.Over() {
		t.Fatalf("of %d bytes: %d, %v, %v, want %v", n, s.Len(), s.Sure(), s.Over(), want)
	}
}

// fed puts a piece more behind.
func fed(t *testing.T, s *stream.Stream, p []byte) {
	t.Helper()
	if err := s.Feed(p); err != api.OK {
		t.Fatalf("Feed of %x behind %d bytes: %v", short(p), s.Len(), err)
	}
}

// done holds the end of s, to which all came, against Decode of all at once,
// and what comes behind the end against the document; it answers the error.
func done(t *testing.T, s *stream.Stream, all []byte, limit int) api.Errno {
	t.Helper()
	want, options, wanted := file.Decode(all, limit)
	if m, o, err := s.Done(); !dart.Same(m, want) || o != options || err != wanted {
		t.Fatalf("Done of %x: %v, %v, %v, want %v, %v, %v", short(all), m.List(), o, err, want.List(), options, wanted)
	}
	closed(t, s, len(all))
	return wanted
}

// closed checks that s, to which n bytes came, is over, and stays so.
func closed(t *testing.T, s *stream.Stream, n int) {
	t.Helper()
	for _, p := range [][]byte{nil, {}, {0x50}, {0, 8, 8}} {
		if err := s.Feed(p); err != api.ErrClosed {
			t.Fatalf("Feed of %x when it is over: %v", p, err)
		}
		if m, o, err := s.Done(); m != nil || (o != file.Options{}) || err != api.ErrClosed {
			t.Fatalf("Done again: %v, %v, %v", m.List(), o, err)
		}
		if s.Len() != n || s.Sure() != api.OK || !s.Over() {
			t.Fatalf("of %d bytes, when it is over: %d, %v, %v", n, s.Len(), s.Sure(), s.Over())
		}
	}
}

// check feeds these pieces and holds all that is told on the way, and in the
// end, against all of the bytes at once; it answers the error.
func check(t *testing.T, limit int, pieces ...[]byte) api.Errno {
	t.Helper()
	s := stream.New(limit)
	var all []byte
	told(t, s, 0, api.OK)
	for _, p := range pieces {
		fed(t, s, p)
		all = append(all, p...)
		told(t, s, len(all), sure(all))
	}
	return done(t, s, all, limit)
}

// allCuts feeds p by all cuts into pieces that aren't empty.
func allCuts(t *testing.T, p []byte, limit int) api.Errno {
	t.Helper()
	var err api.Errno
	for cuts := range 1 << max(len(p)-1, 0) {
		var pieces [][]byte
		from := 0
		for i := 1; i < len(p); i++ {
			if cuts>>(i-1)&1 == 1 {
				pieces = append(pieces, p[from:i])
				from = i
			}
		}
		err = check(t, limit, append(pieces, p[from:])...)
	}
	return err
}

// anyCut answers p in some pieces, many of them empty.
func anyCut(r *rand.Rand, p []byte) [][]byte {
	var pieces [][]byte
	for longest := 1 + r.IntN(len(p)+2); len(p) > 0; {
		n := min(len(p), max(0, r.IntN(longest+2)-1))
		pieces = append(pieces, p[:n])
		p = p[n:]
	}
	for range r.IntN(3) {
		pieces = slices.Insert(pieces, r.IntN(len(pieces)+1), nil)
	}
	return pieces
}

// TestP22_1AllCuts feeds short lists, right and wrong, by all cuts.
func TestP22_1AllCuts(t *testing.T) {
	edge := samples.Turned(t, 0, 0, []int{0}, []int{1})
	right := encoded(t, samples.Map(t, nil, -1, 1), file.Options{})
	for _, x := range []struct {
		name  string
		p     []byte
		limit int
		want  api.Errno
	}{
		{"nothing", nil, 0, api.ErrForm},
		{"a byte", right[:1], 0, api.ErrForm},
		{"eight bytes", right[:8], 0, api.ErrForm},
		{"a lone vertex", right, 0, api.OK},
		{"a byte more", append(slices.Clone(right), 0), 0, api.ErrSum},
		{"a byte more, sealed", sealed(0x50, 0x51, 0, 1, 0, 0), 0, api.ErrCanon},
		{"the first byte wrong", sealed(0x51, 0x51, 0, 1, 0), 0, api.ErrForm},
		{"the second byte wrong", sealed(0x50, 0x50, 0, 1, 0), 0, api.ErrForm},
		{"the second byte wrong, the third above 7", sealed(0x50, 0x50, 8, 1, 0), 0, api.ErrForm},
		{"the third byte above 7", sealed(0x50, 0x51, 8, 1, 0), 0, api.ErrOption},
		{"the third byte above 7, eight in all", []byte{0x50, 0x51, 8, 1, 0, 0, 0, 0}, 0, api.ErrForm},
		{"another sum", append(slices.Clone(right[:8]), 0), 0, api.ErrSum},
		{"an edge", encoded(t, edge, file.Options{Labels: true}), 1, api.OK},
		{"an edge, of none", encoded(t, edge, file.Options{Labels: true}), 0, api.ErrLimit},
		{"an edge, of fewer than none", encoded(t, edge, file.Options{}), math.MinInt, api.ErrLimit},
		{"no edge, of fewer than none", right, math.MinInt, api.OK},
		{"an edge, of any", encoded(t, edge, file.Options{Plain: true}), math.MaxInt, api.OK},
	} {
		if err := allCuts(t, x.p, x.limit); err != x.want {
			t.Errorf("%s: %v, want %v", x.name, err, x.want)
		}
	}
}

// maps answers some of all kinds.
func maps(t *testing.T, r *rand.Rand) []*dart.Map {
	t.Helper()
	all := []*dart.Map{
		samples.Map(t, nil, -1, 0), samples.Map(t, nil, -1, 300), samples.Map(t, samples.Path(800), 5, 0),
		samples.Triangle(t), samples.Triangulation(t, r.IntN, 5), samples.Triangulation(t, r.IntN, 60),
		samples.Beside(t, samples.Triangulation(t, r.IntN, 9), samples.Map(t, nil, -1, 2), samples.Triangle(t)),
	}
	for edges := 1; edges < 60; edges += 7 {
		m := samples.Beside(t, samples.Planar(t, r.IntN, edges), samples.Planar(t, r.IntN, 3))
		all = append(all, samples.Rooted(t, samples.Renamed(t, r.IntN, m), r.IntN(m.Darts())))
	}
	return all
}

// spoilt answers p with some bytes of it others, cut, longer, or as it is.
func spoilt(r *rand.Rand, p []byte) []byte {
	p = slices.Clone(p)
	at := r.IntN(len(p))
	switch r.IntN(6) {
	case 0:
		p[at] ^= 1 << r.IntN(8)
	case 1:
		p = p[:at]
	case 2:
		p = slices.Insert(p, at, byte(r.IntN(256)))
	case 3:
		p[r.IntN(3)] ^= 1 << r.IntN(8)
	case 4:
		inside := p[:len(p)-4]
		inside[r.IntN(len(inside))] ^= 1 << r.IntN(8)
		p = sealed(inside...)
	}
	return p
}

// TestP22_1AnyCuts feeds files, right and spoilt, by some cuts and with limits
// around how many edges they have.
func TestP22_1AnyCuts(t *testing.T) {
	r := rand.New(rand.NewPCG(221, 222))
	met := map[api.Errno]int{}
	for _, m := range maps(t, r) {
		for _, o := range every() {
			p, err := file.Encode(m, o)
			if err != api.OK {
				continue
			}
			for _, limit := range []int{m.Edges(), m.Edges() - 1, api.MaxEdges} {
				met[check(t, limit, anyCut(r, p)...)]++
			}
			for range 40 {
				met[check(t, m.Edges(), anyCut(r, spoilt(r, p))...)]++
			}
		}
	}
	for _, err := range []api.Errno{api.OK, api.ErrForm, api.ErrOption, api.ErrSum, api.ErrCanon, api.ErrLimit} {
		if met[err] == 0 {
			t.Errorf("%v isn't met: %v", err, met)
		}
	}
}

// TestP22_1ByteByByte feeds each byte alone, and an empty piece behind each.
func TestP22_1ByteByByte(t *testing.T) {
	r := rand.New(rand.NewPCG(223, 224))
	for _, m := range append(maps(t, r), samples.Planar(t, r.IntN, 5000)) {
		for _, o := range []file.Options{{}, {Plain: true, Labels: true}} {
			p := encoded(t, m, o)
			var pieces [][]byte
			for i := range p {
				pieces = append(pieces, p[i:i+1], p[i:i])
			}
			if err := check(t, m.Edges(), pieces...); err != api.OK {
				t.Fatalf("%d edges, %v: %v", m.Edges(), o, err)
			}
		}
	}
}

// TestP22_1Read holds what comes of files in pieces against the maps that they
// are of.
func TestP22_1Read(t *testing.T) {
	r := rand.New(rand.NewPCG(225, 226))
	m := samples.Renamed(t, r.IntN, samples.Beside(t, samples.Triangulation(t, r.IntN, 12), samples.Triangle(t)))
	named, _, _ := canon.Canon(m)
	for _, o := range every() {
		s := stream.New(m.Edges())
		for _, p := range anyCut(r, encoded(t, m, o)) {
			fed(t, s, p)
		}
		want := named
		if o.Labels {
			want = m
		}
		if got, read, err := s.Done(); err != api.OK || read != o || !dart.Same(got, want) {
			t.Errorf("%v: %v, %v, %v", o, got.List(), read, err)
		}
	}
}

// TestP22_1Large feeds as many bytes as a file may have, and more, by several
// cuts; whatever they begin with, and whatever the limit is.
func TestP22_1Large(t *testing.T) {
	most := append([]byte{0x50, 0x51, 0}, make([]byte, api.MaxFile-7)...)
	most = sealed(most...)
	for name, p := range map[string][]byte{
		"sealed":                    most,
		"the first byte wrong":      append([]byte{0}, most[1:]...),
		"the third byte above 7":    append([]byte{0x50, 0x51, 8}, most[3:]...),
		"the checksum another":      append(slices.Clone(most[:len(most)-1]), ^most[len(most)-1]),
		"a file, and noughts of it": append(sealed(0x50, 0x51, 0, 1, 0), make([]byte, api.MaxFile-9)...),
	} {
		for _, size := range []int{api.MaxFile, api.MaxFile - 1, 1 << 20, 100003} {
			pieces := slices.Collect(slices.Chunk(p, size))
			if err := check(t, 0, pieces...); err == api.OK || err == api.ErrLarge {
				t.Errorf("%s, by %d: %v", name, size, err)
			}
			for _, more := range [][]byte{{0}, {0x50, 0x51, 0, 1, 0}, make([]byte, api.MaxFile)} {
				if err := check(t, 0, append(pieces, nil, more, nil, more)...); err != api.ErrLarge {
					t.Errorf("%s, by %d, and %d more: %v", name, size, len(more), err)
				}
				if err := check(t, 0, append([][]byte{more}, pieces...)...); err != api.ErrLarge {
					t.Errorf("%s, by %d, behind %d: %v", name, size, len(more), err)
				}
			}
		}
		if err := check(t, api.MaxEdges, append(slices.Clone(p), 0)); err != api.ErrLarge {
			t.Errorf("%s, and a byte more, at once: %v", name, err)
		}
	}
}

// TestP22_1LargeByteByByte feeds more bytes than a file may have, one at a
// time.
func TestP22_1LargeByteByByte(t *testing.T) {
	s := stream.New(0)
	p := []byte{0x50, 0x51, 0}
	for i := range api.MaxFile {
		fed(t, s, p[min(i, 2):][:1])
	}
	told(t, s, api.MaxFile, api.OK)
	for i := range 3 {
		fed(t, s, p[i:i+1])
		told(t, s, api.MaxFile+i+1, api.ErrLarge)
	}
	if m, o, err := s.Done(); m != nil || (o != file.Options{}) || err != api.ErrLarge {
		t.Error(m.List(), o, err)
	}
	closed(t, s, api.MaxFile+3)
}

// held is how many bytes all that is kept takes.
func held() int {
	var x runtime.MemStats
	runtime.GC()
	runtime.ReadMemStats(&x)
	return int(x.HeapAlloc)
}

// TestP22_1KeepsNoMore looks what many streams take: what came is kept till it
// is over, or till it is more than a file may have.
func TestP22_1KeepsNoMore(t *testing.T) {
	const many, most = 32, 4 << 20
	p := make([]byte, 1<<20)
	for _, x := range []struct {
		name   string
		pieces int
		end    bool
		kept   bool
	}{
		{"some", 1, false, true},
		{"some, and over", 1, true, false},
		{"as many as a file may have, and over", 2, true, false},
		{"more", 3, false, false},
		{"much more", 50, false, false},
		{"much more, and over", 50, true, false},
	} {
		ahead := held()
		var all []*stream.Stream
		for range many {
			s := stream.New(0)
			for range x.pieces {
				fed(t, s, p)
			}
			if x.end {
				s.Done()
			}
			all = append(all, s)
		}
		if n := held() - ahead; (n > most) != x.kept {
			t.Errorf("%s: of %d streams %d bytes are kept", x.name, many, n)
		}
		for _, s := range all {
			if s.Len() != x.pieces<<20 || s.Over() != x.end {
				t.Errorf("%s: %d, %v", x.name, s.Len(), s.Over())
			}
		}
	}
}

// TestP22_1Memory writes over each piece behind the call, and looks whether
// the stream wrote over one, or into its spare room.
func TestP22_1Memory(t *testing.T) {
	r := rand.New(rand.NewPCG(227, 228))
	m := samples.Planar(t, r.IntN, 300)
	p := encoded(t, m, file.Options{Labels: true})
	for range 50 {
		s := stream.New(m.Edges())
		for _, piece := range anyCut(r, p) {
			room := append(slices.Clone(piece), 9, 9, 9)
			fed(t, s, room[:len(piece)])
			if !bytes.Equal(room, append(slices.Clone(piece), 9, 9, 9)) {
				t.Fatalf("Feed of %x wrote over it: %x", piece, room)
			}
			for i := range room {
				room[i] = 0xaa
			}
		}
		got, _, err := s.Done()
		if err != api.OK || !dart.Same(got, m) {
			t.Fatalf("Done, when the pieces were written over: %v", err)
		}
	}
}

// TestP22_1Apart feeds two streams by turns: each is told its own.
func TestP22_1Apart(t *testing.T) {
	r := rand.New(rand.NewPCG(229, 230))
	m, other := samples.Planar(t, r.IntN, 40), samples.Planar(t, r.IntN, 40)
	p, q := encoded(t, m, file.Options{Plain: true}), encoded(t, other, file.Options{Labels: true})
	s, u := stream.New(40), stream.New(39)
	for i := range max(len(p), len(q)) {
		fed(t, s, p[min(i, len(p)):min(i+1, len(p))])
		fed(t, u, q[min(i, len(q)):min(i+1, len(q))])
	}
	if err := done(t, s, p, 40); err != api.OK {
		t.Error(err)
	}
	told(t, u, len(q), api.OK)
	if err := done(t, u, q, 39); err != api.ErrLimit {
		t.Error(err)
	}
}

// TestP22_2Begins asks of all first bytes, however few of them came.
func TestP22_2Begins(t *testing.T) {
	told(t, stream.New(0), 0, api.OK)
	for b := range 256 {
		for _, front := range []string{"", "\x50", "\x51", "\x50\x51", "\x51\x50", "\x50\x50", "\x00\x51"} {
			p := append([]byte(front), byte(b))
			check(t, 0, p)
			check(t, 0, []byte(front), p[len(front):])
			check(t, 0, append(slices.Clone(p), make([]byte, 9)...))
		}
	}
}

// TestP22_2WhateverComes holds what is sure at a beginning against what Done
// answers of what may come behind it.
func TestP22_2WhateverComes(t *testing.T) {
	right := encoded(t, samples.Map(t, nil, -1, 1), file.Options{})
	for _, front := range []string{"\x51", "\x00", "\x50\x50", "\x00\x51\x08", "\x50\x51\x08", "\x50\x51\xff\x01\x00"} {
		want := sure([]byte(front))
		if want == api.OK {
			t.Fatalf("nothing is sure of %x", front)
		}
		for _, behind := range [][]byte{right, right[1:], append(right[3:len(right):len(right)], right...), make([]byte, 100)} {
			s := stream.New(api.MaxEdges)
			fed(t, s, []byte(front))
			told(t, s, len(front), want)
			fed(t, s, behind)
			told(t, s, len(front)+len(behind), want)
			if _, _, err := s.Done(); err != want {
				t.Errorf("Done of %x and %x: %v, want %v", front, short(behind), err, want)
			}
		}
		s := stream.New(api.MaxEdges)
		fed(t, s, []byte(front))
		if _, _, err := s.Done(); err != api.ErrForm {
			t.Errorf("Done of %x alone: %v", front, err)
		}
	}
	for _, o := range every() {
		p := encoded(t, samples.Triangle(t), o)
		for n := range len(p) + 1 {
			s := stream.New(3)
			fed(t, s, p[:n])
			told(t, s, n, api.OK)
			fed(t, s, p[n:])
			if err := done(t, s, p, 3); err != api.OK {
				t.Errorf("%v, cut at %d: %v", o, n, err)
			}
		}
	}
}

func TestP22Nil(t *testing.T) {
	var s *stream.Stream
	for range 2 {
		for _, p := range [][]byte{nil, {}, {0x50, 0x51}} {
			if err := s.Feed(p); err != api.ErrNone {
				t.Errorf("Feed of %x: %v", p, err)
			}
		}
		if s.Len() != 0 || s.Sure() != api.ErrNone || s.Over() {
			t.Error(s.Len(), s.Sure(), s.Over())
		}
		if m, o, err := s.Done(); m != nil || (o != file.Options{}) || err != api.ErrNone {
			t.Error(m.List(), o, err)
		}
	}
}

func TestExamples(t *testing.T) {
	s := stream.New(0)
	fed(t, s, []byte{0x50})
	fed(t, s, []byte{0x51})
	told(t, s, 2, api.OK)
	s = stream.New(0)
	fed(t, s, []byte{0x50})
	fed(t, s, []byte{0x50})
	told(t, s, 2, api.ErrForm)
}

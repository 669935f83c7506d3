package file_test

import (
	"bytes"
	"encoding/binary"
	"encoding/hex"
	"hash/crc32"
	"math/rand/v2"
	"slices"
	"testing"

	"parquetry/api"
	"parquetry/bits"
	"parquetry/canon"
	"parquetry/dart"
	"parquetry/euler"
	"parquetry/file"
	"parquetry/pack"
	"parquetry/samples"
	"parquetry/walk"
	"parquetry/word"
)

// every answers all options, each at the place that is its byte.
func every() []file.Options {
	var all []file.Options
	for b := range 8 {
		all = append(all, file.Options{Tri: b%2 == 1, Plain: b/2%2 == 1, Labels: b/4 == 1})
	}
	return all
}

// sealed answers p and the checksum of it.
func sealed(p []byte) []byte {
	return binary.LittleEndian.AppendUint32(slices.Clone(p), crc32.ChecksumIEEE(p))
}

// sealedHex answers these bytes, told to the base 16, and their checksum.
func sealedHex(t *testing.T, s string) []byte {
	t.Helper()
	p, err := hex.DecodeString(s)
	if err != nil {
		t.Fatal(s, err)
	}
	return sealed(p)
}

// walks answers the walk of each part, in the order of the document, along the
// whole of m.
func walks(t *testing.T, m *dart.Map) [][]walk.Step {
	t.Helper()
	var all [][]walk.Step
	met := make([]bool, m.Darts())
	for i := -1; i < m.Darts(); i++ {
		d := i
		if i == -1 {
			d = m.Root()
		}
		if d == -1 || met[d] {
			continue
		}
		steps, err := walk.Of(m, d)
		if err != api.OK {
			t.Fatal(d, err)
		}
		for _, s := range steps {
			met[s.Dart] = true
		}
		all = append(all, steps)
	}
	return all
}

// partOf answers the part that is walked, as a map of its own.
func partOf(t *testing.T, m *dart.Map, steps []walk.Step) *dart.Map {
	t.Helper()
	var darts []int
	for _, s := range steps {
		darts = append(darts, s.Dart)
	}
	slices.Sort(darts)
	sigma := samples.Each(len(darts), func(i int) int { return slices.Index(darts, m.Sigma(darts[i])) })
	return samples.Map(t, sigma, slices.Index(darts, steps[0].Dart), 0)
}

// model is what the document tells of a map's file.
type model struct {
	err     api.Errno
	p       []byte
	payload int
	stored  int // how many bytes of p are words, codes and labels, if nothing is coded
}

// modelOf puts the file of m together by walks of the whole map.
func modelOf(t *testing.T, m *dart.Map, o file.Options) model {
	t.Helper()
	if euler.Genus(m) != 0 {
		return model{err: api.ErrPlanar}
	}
	all := walks(t, m)
	x := model{p: []byte{0x50, 0x51, byte(slices.Index(every(), o))}}
	x.p = binary.AppendUvarint(x.p, uint64(m.Lone()))
	x.p = binary.AppendUvarint(x.p, uint64(len(all)))
	names := ""
	for _, steps := range all {
		size, v := len(steps)/2, walk.Word(steps).Bits()
		if o.Tri {
			alone := partOf(t, m, steps)
			if !euler.Triangulation(alone) {
				return model{err: api.ErrDomain}
			}
			size = alone.Vertices()
			v, _ = word.Encode(alone)
		}
		x.add(size, v, o.Plain)
		names += namesOf(steps, m.Edges())
	}
	if o.Labels {
		x.p = append(x.p, samples.Vec(names).Bytes()...)
		x.payload += len(names)
		x.stored += (len(names) + 7) / 8
	}
	x.p = sealed(x.p)
	return x
}

// add puts a part behind what is there.
func (x *model) add(size int, v *bits.Vec, plain bool) {
	x.p = binary.AppendUvarint(x.p, uint64(size))
	x.p = append(x.p, pack.Pack(v, plain)...)
	x.payload += v.Len()
	x.stored += (v.Len() + 7) / 8
}

// namesOf answers what labels tell of a part of a map of so many edges: of
// each dart that is looked at first its edge, and whether it is odd.
func namesOf(steps []walk.Step, edges int) string {
	s := ""
	met := map[int]int{}
	for _, step := range steps {
		e := step.Dart / 2
		if met[e]++; met[e] > 1 {
			continue
		}
		for bit := 1; bit < edges; bit *= 2 {
			s += string('0' + rune(e/bit%2))
		}
		s += string('0' + rune(step.Dart%2))
	}
	return s
}

// encoded answers the file of m, that there is.
func encoded(t *testing.T, m *dart.Map, o file.Options) []byte {
	t.Helper()
	p, err := file.Encode(m, o)
	if err != api.OK {
		t.Fatalf("Encode of %v, %d, %d, %v: %v", m.List(), m.Root(), m.Lone(), o, err)
	}
	return p
}

// check holds the files of m, by all options, against the model, and what is
// read of them against m.
func check(t *testing.T, m *dart.Map) {
	t.Helper()
	for _, o := range every() {
		x := modelOf(t, m, o)
		p, err := file.Encode(m, o)
		if err != x.err || !bytes.Equal(p, x.p) {
			t.Fatalf("Encode of %v, %d, %d, %v: %x, %v, want %x, %v", m.List(), m.Root(), m.Lone(), o, p, err, x.p, x.err)
		}
		if n, err := file.Payload(m, o); n != x.payload || err != x.err {
			t.Fatalf("Payload of %v, %d, %v: %d, %v, want %d, %v", m.List(), m.Root(), o, n, err, x.payload, x.err)
		}
		if err == api.OK {
			checkRead(t, m, o, p)
			checkSize(t, m, p, x)
		}
	}
}

// checkRead holds what is read of the file of m against m.
func checkRead(t *testing.T, m *dart.Map, o file.Options, p []byte) {
	t.Helper()
	want := m
	if !o.Labels {
		want, _, _ = canon.Canon(m)
	}
	got, read, err := file.Decode(p, m.Edges())
	if err != api.OK || read != o || !dart.Same(got, want) {
		t.Fatalf("Decode of the file of %v, %d, %d, %v: %v, %d, %d, %v, %v", m.List(), m.Root(), m.Lone(), o, got.List(), got.Root(), got.Lone(), read, err)
	}
	if got, read, err := file.Decode(p, m.Edges()-1); m.Edges() > 0 && (err != api.ErrLimit || got != nil || read != file.Options{}) {
		t.Fatalf("Decode of the file of %v, %v, with a limit too low: %v", m.List(), o, err)
	}
	if read, err := file.Head(p); err != api.OK || read != o {
		t.Fatalf("Head of the file of %v, %v: %v, %v", m.List(), o, read, err)
	}
}

// checkSize holds how long the file p of m is against what the bits take,
// stored: each part but a first few has bytes of its own for its size.
func checkSize(t *testing.T, m *dart.Map, p []byte, x model) {
	t.Helper()
	parts := len(euler.Parts(m)) - m.Lone()
	if len(p) > x.stored+16+4*parts || parts <= 8 && len(p) > x.stored+64 || len(p) > api.MaxFile {
		t.Fatalf("the file of %d edges, %d parts: %d bytes, %d stored", m.Edges(), parts, len(p), x.stored)
	}
}

func TestP21_AllSmall(t *testing.T) {
	for n := 0; n <= 6; n += 2 {
		for i, sigma := range samples.Perms(n) {
			for root := range n {
				check(t, samples.Map(t, sigma, root, i%3))
			}
		}
	}
	for _, lone := range []int{0, 1, 2, 127, 128, api.MaxLone} {
		check(t, samples.Map(t, nil, -1, lone))
	}
}

func TestP21_Triangulations(t *testing.T) {
	r := rand.New(rand.NewPCG(211, 212))
	for n := 3; n <= 6; n++ {
		for _, m := range samples.Triangulations(t, n) {
			check(t, m)
			check(t, samples.Renamed(t, r.IntN, m))
		}
	}
	for _, n := range []int{10, 40, 130} {
		check(t, samples.Triangulation(t, r.IntN, n))
	}
}

// anyParts answers a map of some planar parts, of triangulations alone or of
// any, by some names and from some root.
func anyParts(t *testing.T, r *rand.Rand, tri bool, parts, edges int) *dart.Map {
	t.Helper()
	all := []*dart.Map{samples.Map(t, nil, -1, r.IntN(3))}
	for range parts {
		n := 1 + r.IntN(edges)
		if tri {
			all = append(all, samples.Triangulation(t, r.IntN, 3+n/4))
		} else {
			all = append(all, samples.Planar(t, r.IntN, n))
		}
	}
	m := samples.Renamed(t, r.IntN, samples.Beside(t, all...))
	return samples.Rooted(t, m, r.IntN(m.Darts()))
}

func TestP21_Random(t *testing.T) {
	r := rand.New(rand.NewPCG(213, 214))
	for _, edges := range []int{1, 2, 4, 10, 40} {
		for parts := 1; parts <= 8; parts++ {
			check(t, anyParts(t, r, false, parts, edges))
			check(t, anyParts(t, r, true, parts, edges))
		}
	}
	for _, edges := range []int{127, 128, 200, 1000} {
		check(t, anyParts(t, r, false, 2, edges))
		check(t, samples.Map(t, r.Perm(edges*2), 0, 0))
	}
}

// triangle is a triangle whose root is its dart 5: each dart d of it is called
// 5 - d.
func triangle(t *testing.T) *dart.Map {
	t.Helper()
	return samples.Turned(t, 5, 0, []int{0, 5}, []int{1, 2}, []int{3, 4})
}

// TestP21_1Known holds files against bytes that were put together by hand,
// their checksums but one too.
func TestP21_1Known(t *testing.T) {
	edge, loop := samples.Turned(t, 1, 0, []int{0}, []int{1}), samples.Turned(t, 0, 0, []int{0, 1})
	both := samples.Rooted(t, samples.Beside(t, edge, loop), 2)
	path := samples.Map(t, samples.Path(2*300), 0, 0)
	path300, _ := hex.DecodeString("505102" + "00" + "01" + "ac02" + "00")
	path300 = append(append(path300, bytes.Repeat([]byte{0}, 75)...), bytes.Repeat([]byte{0x55}, 75)...)
	for _, x := range []struct {
		name string
		m    *dart.Map
		o    file.Options
		want []byte
	}{
		{"a lone vertex", samples.Map(t, nil, -1, 1), file.Options{}, []byte{0x50, 0x51, 0, 1, 0, 0x50, 0x61, 0x9b, 0x94}},
		{"nothing", samples.Map(t, nil, -1, 0), file.Options{}, sealedHex(t, "505100"+"00"+"00")},
		{"nothing, by all options", samples.Map(t, nil, -1, 0), every()[7], sealedHex(t, "505107"+"00"+"00")},
		{"128 lone vertices", samples.Map(t, nil, -1, 128), every()[1], sealedHex(t, "505101"+"8001"+"00")},
		{"an edge", edge, file.Options{}, sealedHex(t, "505100"+"00"+"01"+"01"+"0004")},
		{"an edge, plain, its darts named", edge, every()[6], sealedHex(t, "505106"+"00"+"01"+"01"+"0004"+"01")},
		{"a loop", loop, file.Options{}, sealedHex(t, "505100"+"00"+"01"+"01"+"000e")},
		{"a loop and an edge", both, file.Options{}, sealedHex(t, "505100"+"00"+"02"+"01"+"000e"+"01"+"0004")},
		{"a loop and an edge, named", both, every()[4], sealedHex(t, "505104"+"00"+"02"+"01"+"000e"+"01"+"0004"+"01")},
		{"a triangle", triangle(t), file.Options{}, sealedHex(t, "505100"+"00"+"01"+"03"+"00600d")},
		{"a triangle, by its code", triangle(t), every()[1], sealedHex(t, "505101"+"00"+"01"+"03"+"0015")},
		{"a triangle, by its code, named", triangle(t), every()[7], sealedHex(t, "505107"+"00"+"01"+"03"+"0015"+"2e01")},
		{"a path, plain", path, every()[2], sealed(path300)},
	} {
		if p := encoded(t, x.m, x.o); !bytes.Equal(p, x.want) {
			t.Errorf("%s: %x, want %x", x.name, p, x.want)
		}
	}
}

// TestP21_1Packed asks for files in which the bits are coded, and for what the
// options do to them.
func TestP21_1Packed(t *testing.T) {
	path := samples.Map(t, samples.Path(2*300), 0, 0)
	p, q := encoded(t, path, file.Options{}), encoded(t, path, file.Options{Plain: true})
	if len(q) != 3+1+1+2+1+150+4 || len(p) > 60 {
		t.Errorf("a path of 300 edges: %d bytes, plain %d", len(p), len(q))
	}
	if p[2] != 0 || q[2] != 2 || p[7] == 0 || q[7] != 0 {
		t.Errorf("a path of 300 edges: %x, plain %x", p[:8], q[:8])
	}
	for i, want := range []int{1200, 0, 1200, 0, 4200, 0, 4200, 0} {
		if n, err := file.Payload(path, every()[i]); n != want || (err == api.OK) != (want > 0) {
			t.Errorf("Payload of a path of 300 edges, %v: %d, %v, want %d", every()[i], n, err, want)
		}
	}
	for i, want := range []int{12, 7, 12, 7, 21, 16, 21, 16} {
		if n, err := file.Payload(triangle(t), every()[i]); n != want || err != api.OK {
			t.Errorf("Payload of a triangle, %v: %d, %v, want %d", every()[i], n, err, want)
		}
	}
}

// TestP21_1OrderOfParts asks for files of the same parts by other names: the
// root's comes first, the others by their least darts, each from that one.
func TestP21_1OrderOfParts(t *testing.T) {
	edge, loop := samples.Turned(t, 0, 0, []int{0}, []int{1}), samples.Turned(t, 0, 0, []int{0, 1})
	fork := samples.Turned(t, 0, 0, []int{0}, []int{1, 2}, []int{3})
	m := samples.Beside(t, edge, fork, loop)
	for d, want := range []string{
		"010004" + "020050" + "01000e", "010004" + "020050" + "01000e",
		"020050" + "010004" + "01000e", "020044" + "010004" + "01000e",
		"020044" + "010004" + "01000e", "020050" + "010004" + "01000e",
		"01000e" + "010004" + "020050", "01000e" + "010004" + "020050",
	} {
		p := encoded(t, samples.Rooted(t, m, d), file.Options{})
		if !bytes.Equal(p, sealedHex(t, "505100"+"00"+"03"+want)) {
			t.Errorf("from the dart %d: %x, want %s", d, p, want)
		}
	}
}

// refused asks for a file of a map that has none by these options.
func refused(t *testing.T, name string, m *dart.Map, o file.Options, want api.Errno) {
	t.Helper()
	if p, err := file.Encode(m, o); p != nil || err != want {
		t.Errorf("Encode of %s, %v: %x, %v, want %v", name, o, p, err, want)
	}
	if n, err := file.Payload(m, o); n != 0 || err != want {
		t.Errorf("Payload of %s, %v: %d, %v, want %v", name, o, n, err, want)
	}
}

func TestP21_2Errors(t *testing.T) {
	torus := samples.Faced(t, samples.Torus()...)
	crossed := samples.Turned(t, 0, 1, []int{0, 2, 1, 3})
	tri := samples.Triangle(t)
	edge := samples.Turned(t, 0, 0, []int{0}, []int{1})
	for _, o := range every() {
		refused(t, "nil", nil, o, api.ErrNone)
		for name, m := range map[string]*dart.Map{
			"triangles on a torus":                torus,
			"two loops crossed":                   crossed,
			"two loops crossed behind an edge":    samples.Beside(t, edge, crossed),
			"an edge behind two loops crossed":    samples.Beside(t, crossed, edge),
			"two times two loops crossed":         samples.Beside(t, crossed, crossed),
			"a triangle, and one part that isn't": samples.Beside(t, tri, torus),
		} {
			refused(t, name, m, o, api.ErrPlanar)
		}
	}
}

// TestP21_2Domain asks for codes of maps of all sorts: each part that has
// darts must be a triangulation alone, whatever else there is.
func TestP21_2Domain(t *testing.T) {
	right := map[string]int{"nothing": 0, "a lone vertex": 0, "three lone vertices": 0, "a triangle and a lone vertex": 7, "two triangles": 14}
	for name, m := range samples.NoTriangulations(t) {
		if !euler.Planar(m) {
			continue
		}
		check(t, m)
		want, ok := right[name]
		for _, o := range every() {
			switch n, err := file.Payload(m, o); {
			case !o.Tri:
			case ok && (err != api.OK || !o.Labels && n != want):
				t.Errorf("Payload of %s, %v: %d, %v, want %d", name, o, n, err, want)
			case !ok:
				refused(t, name, m, o, api.ErrDomain)
				refused(t, name+", behind a triangle", samples.Beside(t, samples.Triangle(t), m), o, api.ErrDomain)
				refused(t, name+", ahead of a triangle", samples.Beside(t, m, samples.Triangle(t)), o, api.ErrDomain)
			}
		}
	}
}

// TestP8Total asks of all lists that there are of a few numbers: there is no
// map, or it isn't planar, or it is outside the code's domain, or there is a
// file.
func TestP8Total(t *testing.T) {
	met := map[api.Errno]int{}
	lists := [][]int{nil}
	for n := range 5 {
		var longer [][]int
		for _, l := range lists {
			for root := -1; root <= n; root++ {
				for lone := -1; lone <= 1; lone++ {
					m, err := dart.New(l, root, lone)
					met[total(t, m, err)]++
				}
			}
			for x := -1; x < 4; x++ {
				longer = append(longer, append(slices.Clone(l), x))
			}
		}
		lists = longer
	}
	for _, err := range []api.Errno{api.OK, api.ErrNone, api.ErrPlanar, api.ErrDomain} {
		if met[err] == 0 {
			t.Errorf("%v isn't met: %v", err, met)
		}
	}
}

// total holds Encode and Payload of what New answered, by all options, against
// what may be; it answers the error by the last ones.
func total(t *testing.T, m *dart.Map, none api.Errno) api.Errno {
	t.Helper()
	var err api.Errno
	for i, o := range every() {
		wanted := []api.Errno{api.OK, api.ErrPlanar}
		if o.Tri {
			wanted = append(wanted, api.ErrDomain)
		}
		if none != api.OK {
			wanted = []api.Errno{api.ErrNone}
		}
		var p []byte
		p, err = file.Encode(m, o)
		n, again := file.Payload(m, o)
		switch {
		case !slices.Contains(wanted, err) || again != err:
			t.Fatalf("of %v, %d, %d, %v: %v, %v", m.List(), m.Root(), m.Lone(), o, err, again)
		case err != api.OK && (p != nil || n != 0):
			t.Fatalf("of %v, %v: %x, %d beside %v", m.List(), o, p, n, err)
		case err == api.OK && int(p[2]) != i:
			t.Fatalf("of %v, %v: %x", m.List(), o, p)
		}
	}
	return err
}

// TestP21_NewMemory changes what was answered, and what was handed in.
func TestP21_NewMemory(t *testing.T) {
	m := triangle(t)
	for _, o := range every() {
		first := encoded(t, m, o)
		kept := slices.Clone(first)
		clear(first)
		if again := encoded(t, m, o); !bytes.Equal(again, kept) {
			t.Fatalf("the file of a triangle, %v: %x, then %x", o, kept, again)
		}
		room := append(slices.Clone(kept), 1, 2, 3)
		got, _, err := file.Decode(room[:len(kept)], 3)
		if err != api.OK || !bytes.Equal(room, append(kept, 1, 2, 3)) {
			t.Fatalf("Decode changed what it was handed: %x, %v", room, err)
		}
		list := got.List()
		clear(room)
		if !slices.Equal(got.List(), list) || !slices.Equal(m.List(), []int{5, 2, 1, 4, 3, 0}) {
			t.Fatal("the map changes with what was handed in")
		}
	}
}

// TestOptionsValues does things with one that the others don't see.
func TestOptionsValues(t *testing.T) {
	a := file.Options{Tri: true}
	b := a
	b.Labels = true
	if a == b || a != (file.Options{Tri: true}) {
		t.Error(a, b)
	}
}

func TestExamples(t *testing.T) {
	p := encoded(t, samples.Map(t, nil, -1, 1), file.Options{})
	if !bytes.Equal(p, sealedHex(t, "5051000100")) {
		t.Errorf("%x", p)
	}
}

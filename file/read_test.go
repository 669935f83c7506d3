package file_test

import (
	"bytes"
	"encoding/binary"
	"fmt"
	"hash/crc32"
	"math"
	"math/rand/v2"
	"slices"
	"strings"
	"testing"

	"parquetry/api"
	"parquetry/bits"
	"parquetry/canon"
	"parquetry/coder"
	"parquetry/dart"
	"parquetry/euler"
	"parquetry/file"
	"parquetry/pack"
	"parquetry/samples"
)

// decoded checks that p is read just if Encode tells it of what is read, and
// that nothing stands beside an error; it answers the error.
func decoded(t *testing.T, p []byte) api.Errno {
	t.Helper()
	m, o, err := file.Decode(p, api.MaxEdges)
	if err != api.OK {
		if m != nil || (o != file.Options{}) {
			t.Fatalf("Decode of %x: %v, %v beside %v", p, m.List(), o, err)
		}
		return err
	}
	if m == nil || !bytes.Equal(encoded(t, m, o), p) {
		t.Fatalf("Decode of %x: %v, %v, of another file", p, m.List(), o)
	}
	if !o.Labels && !canon.Is(m) {
		t.Fatalf("Decode of %x: %v isn't canonical", p, m.List())
	}
	return err
}

// TestP21_3Errors asks of each error ahead of what the map tells, with others
// that apply, too.
func TestP21_3Errors(t *testing.T) {
	right := sealedHex(t, "5051000100")
	with := func(i int, b byte) []byte {
		p := slices.Clone(right)
		p[i] = b
		return p
	}
	large := make([]byte, api.MaxFile+1)
	largeRight := sealed(append([]byte{0x50, 0x51, 0, 1, 0}, make([]byte, api.MaxFile-8)...))
	for name, x := range map[string]struct {
		p    []byte
		want api.Errno
	}{
		"right":                               {right, api.OK},
		"nothing":                             {nil, api.ErrForm},
		"a byte":                              {right[:1], api.ErrForm},
		"eight bytes":                         {right[:8], api.ErrForm},
		"eight bytes, sealed":                 {sealedHex(t, "50510001"), api.ErrForm},
		"eight bytes, the third too high":     {sealedHex(t, "50510801"), api.ErrForm},
		"nine bytes, the first wrong":         {with(0, 0x51), api.ErrForm},
		"nine bytes, the second wrong":        {with(1, 0x50), api.ErrForm},
		"the second wrong, but sealed":        {sealedHex(t, "5050000100"), api.ErrForm},
		"the first wrong, the third too high": {sealedHex(t, "0051080100"), api.ErrForm},
		"the third too high":                  {with(2, 8), api.ErrOption},
		"the third too high, but sealed":      {sealedHex(t, "5051080100"), api.ErrOption},
		"the third as high as can be":         {sealedHex(t, "5051ff0100"), api.ErrOption},
		"the fourth another":                  {with(3, 2), api.ErrSum},
		"the third another":                   {with(2, 7), api.ErrSum},
		"the sum's first byte":                {with(5, 0), api.ErrSum},
		"the sum's last byte":                 {with(8, 0), api.ErrSum},
		"a nought behind":                     {append(slices.Clone(right), 0), api.ErrSum},
		"wrong, and no file":                  {[]byte{0x50, 0x51, 0, 0xff, 0xff, 0, 0, 0, 0}, api.ErrSum},
		"no file":                             {sealedHex(t, "505100ffff"), api.ErrCanon},
		"too large":                           {large, api.ErrLarge},
		"too large, sealed":                   {largeRight, api.ErrLarge},
		"as large as can be":                  {large[1:], api.ErrForm},
		"as large as can be, begun":           {append(right[:3:3], large[4:]...), api.ErrSum},
		"as large as can be, the third":       {append([]byte{0x50, 0x51, 9}, large[4:]...), api.ErrOption},
		"as large as can be, sealed":          {sealed(largeRight[:api.MaxFile-4]), api.ErrCanon},
	} {
		if err := decoded(t, x.p); err != x.want {
			t.Errorf("%s: %v, want %v", name, err, x.want)
		}
	}
}

// TestP21_3Limit asks with limits around how many edges there are; ahead of
// the limit comes all else.
func TestP21_3Limit(t *testing.T) {
	for _, edges := range []int{0, 1, 2, 9} {
		m := samples.Map(t, samples.Path(2*edges), min(edges, 1)-1, 3)
		p := encoded(t, m, file.Options{Labels: true})
		for _, limit := range []int{math.MinInt, -edges, -2, -1, 0, 1, edges - 1, edges, edges + 1, api.MaxEdges, math.MaxInt} {
			got, o, err := file.Decode(p, limit)
			switch {
			case edges <= max(limit, 0) && (err != api.OK || !dart.Same(got, m) || !o.Labels):
				t.Errorf("Decode of %d edges, %d: %v", edges, limit, err)
			case edges > max(limit, 0) && (err != api.ErrLimit || got != nil || o != file.Options{}):
				t.Errorf("Decode of %d edges, %d: %v, %v, %v", edges, limit, got.List(), o, err)
			}
		}
		if _, _, err := file.Decode(sealed(append(p[:len(p)-4:len(p)-4], 0)), 0); err != api.ErrCanon {
			t.Errorf("Decode of %d edges, and a byte more: %v", edges, err)
		}
	}
}

// TestP21_3Refuses asks of bytes that are sealed but are no file: each of them
// tells a map all but right.
func TestP21_3Refuses(t *testing.T) {
	none := map[string]string{
		"a number of lone vertices with a nought": "505100" + "8100" + "00",
		"no number":                      "505100" + "ff" + "ff",
		"65537 lone vertices":            "505100" + "818004" + "00",
		"2^63 lone vertices":             "505100" + "80808080808080808001" + "00",
		"2^64 lone vertices, less 1":     "505100" + "ffffffffffffffffff01" + "00",
		"2^64 lone vertices":             "505100" + "80808080808080808002" + "00",
		"no number of parts":             "505100" + "01" + "80",
		"a part that isn't there":        "505100" + "00" + "01",
		"a part without bits":            "505100" + "00" + "01" + "01",
		"bits without their end":         "505100" + "00" + "01" + "03" + "0060",
		"more parts than are there":      "505100" + "00" + "02" + "01" + "0004",
		"fewer parts than are there":     "505100" + "00" + "01" + "01" + "0004" + "01" + "0004",
		"2^62 parts":                     "505100" + "00" + "808080808080808040" + "01" + "0004",
		"2^64 parts, less 1":             "505100" + "00" + "ffffffffffffffffff01" + "01" + "0004",
		"a number of parts with noughts": "505100" + "00" + "818000" + "01" + "0004",
		"a part without edges":           "505100" + "00" + "01" + "00" + "00",
		"one more without edges":         "505100" + "00" + "02" + "01" + "0004" + "00" + "00",
		"a size with a nought":           "505100" + "00" + "01" + "8100" + "0004",
		"a size of 65537 edges":          "505100" + "00" + "01" + "818004" + "0004",
		"a size of 2^62 edges":           "505100" + "00" + "01" + "808080808080808040" + "0004",
		"a size of 2^63 edges":           "505100" + "00" + "01" + "80808080808080808001" + "0004",
		"a mode that isn't there":        "505100" + "00" + "01" + "01" + "0a04",
		"a bit too many":                 "505100" + "00" + "01" + "01" + "0014",
		"a word that isn't balanced":     "505100" + "00" + "01" + "01" + "0001",
		"a word that isn't right":        "505100" + "00" + "01" + "02" + "0072",
		"bytes behind":                   "505100" + "01" + "00" + "00",
		"bytes behind a part":            "505100" + "00" + "01" + "01" + "0004" + "00",
		"a code of no vertices":          "505101" + "00" + "01" + "00" + "00",
		"a code of a vertex":             "505101" + "00" + "01" + "01" + "00",
		"a code of two vertices":         "505101" + "00" + "01" + "02" + "0005",
		"a code that isn't balanced":     "505101" + "00" + "01" + "03" + "0016",
		"a code that none has":           "505101" + "00" + "01" + "03" + "0025",
		"a code with a bit too many":     "505101" + "00" + "01" + "03" + "0095",
		"a code of 2^62 vertices":        "505101" + "00" + "01" + "808080808080808040" + "0015",
		"a code of 21848 vertices":       "505101" + "00" + "01" + "d8aa01" + "0015",
		"a word where a code stands":     "505101" + "00" + "01" + "03" + "00600d",
		"a code where a word stands":     "505100" + "00" + "01" + "03" + "0015",
		"labels without any":             "505104" + "00" + "01" + "01" + "0004",
		"labels with a bit too many":     "505104" + "00" + "01" + "01" + "0004" + "02",
		"labels with bytes behind":       "505104" + "00" + "01" + "01" + "0004" + "01" + "00",
		"labels of no edge":              "505104" + "01" + "00" + "00",
		"labels with an edge twice":      "505104" + "00" + "01" + "02" + "0050" + "05",
		"labels with no such edge":       "505104" + "00" + "01" + "03" + "00600d" + "2601",
		"a part not from its least dart": "505104" + "00" + "02" + "01" + "000e" + "01" + "0004" + "0c",
		"parts not by their least darts": "505104" + "00" + "03" + "01" + "000e" + "01" + "000e" + "01" + "0004" + "5000",
		"a number's mark alone":          "505107" + "80" + "80",
	}
	for name, s := range none {
		if err := decoded(t, sealedHex(t, s)); err != api.ErrCanon {
			t.Errorf("%s: %v", name, err)
		}
	}
}

// TestP21_3Takes asks of bytes that are files, each near to some that are
// none.
func TestP21_3Takes(t *testing.T) {
	for name, s := range map[string]string{
		"65536 lone vertices":                "505100" + "808004" + "00",
		"an edge":                            "505100" + "00" + "01" + "01" + "0004",
		"two edges":                          "505100" + "00" + "02" + "01" + "0004" + "01" + "0004",
		"a word":                             "505100" + "00" + "01" + "02" + "00d8",
		"a code":                             "505101" + "00" + "01" + "03" + "0015",
		"no labels":                          "505104" + "01" + "00",
		"labels":                             "505104" + "00" + "01" + "02" + "0050" + "06",
		"labels, the second part turned too": "505104" + "00" + "02" + "01" + "000e" + "01" + "0004" + "04",
		"parts by their least darts":         "505104" + "00" + "03" + "01" + "000e" + "01" + "000e" + "01" + "0004" + "8800",
	} {
		if err := decoded(t, sealedHex(t, s)); err != api.OK {
			t.Errorf("%s: %v", name, err)
		}
	}
}

// TestP21_3Modes asks of the same bits, written by all modes: one of them
// alone is right.
func TestP21_3Modes(t *testing.T) {
	for _, text := range []string{strings.Repeat("(", 80) + strings.Repeat(")", 80), strings.Repeat("([)]", 60), "(([))]"} {
		v := samples.Word(t, text).Bits()
		for _, o := range []file.Options{{}, {Plain: true}} {
			own, right := pack.Pack(v, o.Plain), 0
			for mode := range coder.MaxOrder + 2 {
				p := []byte{0x50, 0x51, byte(slices.Index(every(), o)), 0, 1}
				p = binary.AppendUvarint(p, uint64(len(text)/2))
				packed := packedBy(t, v, mode)
				err := decoded(t, sealed(append(p, packed...)))
				if bytes.Equal(packed, own) != (err == api.OK) || err != api.OK && err != api.ErrCanon {
					t.Fatalf("%s, %v, by the mode %d: %v", samples.Short(text), o, mode, err)
				}
				if err == api.OK {
					right++
				}
			}
			if right != 1 {
				t.Fatalf("%s, %v: %d modes are right", samples.Short(text), o, right)
			}
		}
	}
}

// packedBy answers the bits by a mode, whether they would be packed by it or
// not.
func packedBy(t *testing.T, v *bits.Vec, mode int) []byte {
	t.Helper()
	if mode == 0 {
		return append([]byte{0}, v.Bytes()...)
	}
	code, err := coder.Encode(v, mode-1)
	if err != api.OK {
		t.Fatal(err)
	}
	return append(binary.AppendUvarint([]byte{byte(mode)}, uint64(code.Len())), code.Bytes()...)
}

// changed tries a file with each one of its bits another, cut short, and with
// bytes between, sealed again or not.
func changed(t *testing.T, p []byte, met map[api.Errno]int) {
	t.Helper()
	inside := p[:len(p)-4]
	for i := range p {
		for bit := range 8 {
			q := slices.Clone(p)
			q[i] ^= 1 << bit
			err := decoded(t, q)
			if want := frame(q); err != want {
				t.Fatalf("Decode of %x, changed to %x: %v, want %v", p, q, err, want)
			}
			if i < len(inside) {
				q = sealed(q[:len(inside)])
				err = decoded(t, q)
				met[err]++
				if want := frame(q); err != want && (want != api.OK || err != api.ErrCanon) {
					t.Fatalf("Decode of %x, sealed again: %v, want %v", q, err, want)
				}
			}
		}
		if i < len(inside) {
			q := sealed(inside[:i])
			if err := decoded(t, q); err != frame(q) && err != api.ErrCanon {
				t.Fatalf("Decode of %x: %v", q, err)
			}
			for _, b := range []byte{0, 1, 0x80, 0xff} {
				q := sealed(slices.Insert(slices.Clone(inside), i, b))
				met[decoded(t, q)]++
			}
		}
	}
	if err := decoded(t, sealed(append(slices.Clone(inside), 0))); err != api.ErrCanon {
		t.Fatalf("Decode of %x and a nought: %v", inside, err)
	}
}

// frame is the error of what stands around what a file tells.
func frame(p []byte) api.Errno {
	switch {
	case len(p) < 9 || p[0] != 0x50 || p[1] != 0x51:
		return api.ErrForm
	case p[2] > 7:
		return api.ErrOption
	case crc32.ChecksumIEEE(p[:len(p)-4]) != binary.LittleEndian.Uint32(p[len(p)-4:]):
		return api.ErrSum
	}
	return api.OK
}

func TestP21_3Changed(t *testing.T) {
	r := rand.New(rand.NewPCG(221, 222))
	met := map[api.Errno]int{}
	for _, m := range []*dart.Map{
		samples.Map(t, nil, -1, 0), samples.Map(t, nil, -1, 200), triangle(t),
		samples.Triangulation(t, r.IntN, 20), samples.Map(t, samples.Path(400), 7, 0),
		anyParts(t, r, true, 3, 10), anyParts(t, r, false, 3, 10), anyParts(t, r, false, 12, 1),
	} {
		for _, o := range every() {
			if p, err := file.Encode(m, o); err == api.OK {
				changed(t, p, met)
			}
		}
	}
	if met[api.OK] == 0 || met[api.ErrCanon] == 0 || met[api.ErrOption] == 0 || met[api.ErrForm] == 0 || len(met) != 4 {
		t.Error(met)
	}
}

// TestP21_3AnyBytes asks of lists of some bytes, sealed.
func TestP21_3AnyBytes(t *testing.T) {
	some := []byte{0, 0, 0, 1, 1, 2, 3, 4, 0x0e, 0x15, 0x80, 0xff}
	r := rand.New(rand.NewPCG(223, 224))
	met := map[api.Errno]int{}
	for range 100000 {
		p := []byte{0x50, 0x51, byte(r.IntN(8))}
		for range 2 + r.IntN(9) {
			p = append(p, some[r.IntN(len(some))])
		}
		met[decoded(t, sealed(p))]++
	}
	if met[api.OK] < 100 || met[api.ErrCanon] == 0 || len(met) != 2 {
		t.Error(met)
	}
}

// compositions answers all lists of numbers, 1 at least, that are n together.
func compositions(n int) [][]int {
	if n == 0 {
		return [][]int{nil}
	}
	var all [][]int
	for first := 1; first <= n; first++ {
		for _, rest := range compositions(n - first) {
			all = append(all, append([]int{first}, rest...))
		}
	}
	return all
}

// stored answers x as the bytes of k bits.
func stored(x, k int) []byte {
	p := binary.LittleEndian.AppendUint32(nil, uint32(x))
	return p[:(k+7)/8]
}

// plainFiles goes through all that has the form of a plain file of so many
// edges, without labels, whatever the words are.
func plainFiles(edges int, try func(p []byte)) {
	for _, sizes := range compositions(edges) {
		for x := range 1 << (4 * edges) {
			p := []byte{0x50, 0x51, 2, 0, byte(len(sizes))}
			rest := x
			for _, size := range sizes {
				p = append(p, byte(size), 0)
				p = append(p, stored(rest%(1<<(4*size)), 4*size)...)
				rest >>= 4 * size
			}
			try(p)
		}
	}
}

// planarMaps answers how many planar maps of so many edges there are, by their
// lists and roots, and how many of them are different canonical ones.
func planarMaps(t *testing.T, edges int) (all, canonical int) {
	t.Helper()
	met := map[string]int{}
	for _, sigma := range samples.Perms(2 * edges) {
		for root := range sigma {
			m := samples.Map(t, sigma, root, 0)
			if euler.Planar(m) {
				all++
				named, _, _ := canon.Canon(m)
				met[fmt.Sprint(named.List())]++
			}
		}
	}
	return all, len(met)
}

// TestP21_3JustFiles reads all bits that there are: of them are read as many
// as there are canonical maps, and with each of these as many labels as there
// are maps of that name.
func TestP21_3JustFiles(t *testing.T) {
	for edges, width := range []int{0, 0, 1, 2} {
		if edges == 0 {
			continue
		}
		all, canonical := planarMaps(t, edges)
		read, named := 0, 0
		met := map[string]int{}
		plainFiles(edges, func(p []byte) {
			if decoded(t, sealed(p)) != api.OK {
				return
			}
			read++
			labelled := slices.Clone(p)
			labelled[2] = 6
			for x := range 1 << (edges * (width + 1)) {
				q := sealed(append(labelled, stored(x, edges*(width+1))...))
				if decoded(t, q) == api.OK {
					m, _, _ := file.Decode(q, edges)
					met[fmt.Sprint(m.List(), m.Root())]++
					named++
				}
			}
		})
		if read != canonical || named != all || len(met) != all {
			t.Errorf("of %d edges: %d files, want %d; with labels %d, of %d maps, want %d", edges, read, canonical, named, len(met), all)
		}
	}
}

// TestP21_3Counts holds how many files of one part there are against how many
// rooted maps, and triangulations, there are.
func TestP21_3Counts(t *testing.T) {
	for i, want := range []int{2, 9, 54, 378} {
		edges, read := i+1, 0
		for x := range 1 << (4 * edges) {
			p := append([]byte{0x50, 0x51, 2, 0, 1, byte(edges), 0}, stored(x, 4*edges)...)
			if decoded(t, sealed(p)) == api.OK {
				read++
			}
		}
		if read != want {
			t.Errorf("of %d edges: %d files, want %d", edges, read, want)
		}
	}
	for i, want := range []int{1, 1, 3} {
		n, read := i+3, 0
		for x := range 1 << (4*n - 5) {
			p := append([]byte{0x50, 0x51, 3, 0, 1, byte(n), 0}, stored(x, 4*n-5)...)
			if decoded(t, sealed(p)) == api.OK {
				read++
			}
		}
		if read != want {
			t.Errorf("of %d vertices: %d files, want %d", n, read, want)
		}
	}
}

// TestP21_3AllNames reads a map back by all names of its darts and from all
// roots.
func TestP21_3AllNames(t *testing.T) {
	tri := samples.Triangle(t)
	for _, names := range samples.AllNames(4) {
		m := samples.Relabelled(t, samples.Beside(t, tri, samples.Turned(t, 0, 1, []int{0, 1})), names)
		for d := range m.Darts() {
			from := samples.Rooted(t, m, d)
			for _, o := range []file.Options{{Labels: true}, {Plain: true}} {
				checkRead(t, from, o, encoded(t, from, o))
			}
		}
	}
}

func TestP21_3Head(t *testing.T) {
	for b := range 256 {
		for _, behind := range []string{"", "\x00", "\x00\x00\x00\x00\x00\x00", "abc", strings.Repeat("x", api.MaxFile)} {
			o, err := file.Head(append([]byte{0x50, 0x51, byte(b)}, behind...))
			switch {
			case b < 8 && (err != api.OK || o != every()[b]):
				t.Errorf("Head of the byte %d, %d behind: %v, %v", b, len(behind), o, err)
			case b >= 8 && (err != api.ErrOption || o != file.Options{}):
				t.Errorf("Head of the byte %d, %d behind: %v, %v", b, len(behind), o, err)
			}
			if len(behind) > 10 && b%32 > 0 {
				continue
			}
			for _, front := range []string{"", "\x50", "\x51", "\x50\x51", "\x51\x51", "\x50\x50", "\x51\x50", "pq"} {
				p := append([]byte(front), byte(b))
				if front == "\x50\x51" {
					p = p[:2]
				} else if len(front) == 2 {
					p = append(p, behind...)
				}
				if o, err := file.Head(p); err != api.ErrForm || (o != file.Options{}) {
					t.Errorf("Head of %x: %v, %v", p[:min(len(p), 9)], o, err)
				}
			}
		}
	}
	if o, err := file.Head(nil); err != api.ErrForm || (o != file.Options{}) {
		t.Errorf("Head of nil: %v, %v", o, err)
	}
}

// large are maps as large as can be.
func large(t *testing.T, r *rand.Rand) map[string]*dart.Map {
	t.Helper()
	n := api.MaxEdges
	each := samples.Each(2*n, func(d int) int { return d })
	pairs := samples.Each(2*n, func(d int) int { return d ^ 1 })
	var triangles, some []*dart.Map
	for range n / 3 {
		triangles = append(triangles, samples.Triangle(t))
	}
	for range n / 64 {
		some = append(some, samples.Planar(t, r.IntN, 64))
	}
	stacked := samples.Faced(t, samples.Stacked((n+6)/3, r.IntN)...)
	return map[string]*dart.Map{
		"a path":                samples.Map(t, samples.Path(2*n), 2*n-1, 0),
		"single edges":          samples.Map(t, each, n+1, api.MaxLone),
		"single loops":          samples.Map(t, pairs, n, 0),
		"any part":              samples.Planar(t, r.IntN, n),
		"any parts":             samples.Renamed(t, r.IntN, samples.Beside(t, some...)),
		"single triangles":      samples.Renamed(t, r.IntN, samples.Beside(t, triangles...)),
		"a large triangulation": samples.Rooted(t, samples.Renamed(t, r.IntN, stacked), n),
	}
}

// checkLarge holds the file of m by some options against how large it may be,
// and what is read of it against m.
func checkLarge(t *testing.T, m *dart.Map, o file.Options) {
	t.Helper()
	p := encoded(t, m, o)
	n, err := file.Payload(m, o)
	parts := len(euler.Parts(m)) - m.Lone()
	if err != api.OK || len(p) > api.MaxFile || len(p) > n/8+64+4*parts {
		t.Fatalf("%v: %v, %d bytes of %d bits", o, err, len(p), n)
	}
	want := m
	if !o.Labels {
		want, _, _ = canon.Canon(m)
	}
	if got, read, err := file.Decode(p, api.MaxEdges); err != api.OK || read != o || !dart.Same(got, want) {
		t.Fatalf("Decode, %v: %v", o, err)
	}
}

// TestP21_Large goes through what is as large as can be.
func TestP21_Large(t *testing.T) {
	for name, m := range large(t, rand.New(rand.NewPCG(225, 226))) {
		t.Run(name, func(t *testing.T) {
			t.Parallel()
			checkLarge(t, m, file.Options{})
			checkLarge(t, m, file.Options{Plain: true, Labels: true})
			if strings.Contains(name, "triang") {
				checkLarge(t, m, file.Options{Tri: true, Labels: true})
			} else {
				refused(t, name, m, file.Options{Tri: true}, api.ErrDomain)
			}
		})
	}
}

// TestP21_3TooLarge asks of few bytes that tell more edges than a map has:
// they are refused, in no more time than a map takes.
func TestP21_3TooLarge(t *testing.T) {
	n := api.MaxEdges
	v := samples.Word(t, strings.Repeat("(", n)+strings.Repeat(")", n)).Bits()
	one := append(binary.AppendUvarint(nil, uint64(n)), pack.Pack(v, false)...)
	if err := decoded(t, sealed(append([]byte{0x50, 0x51, 0, 0, 1}, one...))); err != api.OK {
		t.Fatalf("of a path as long as can be: %v", err)
	}
	parts := n / 2
	p := binary.AppendUvarint([]byte{0x50, 0x51, 0, 0}, uint64(parts))
	p = append(p, bytes.Repeat(one, parts)...)
	if len(p) > api.MaxFile {
		t.Fatalf("%d bytes a path: the file is too large", len(one))
	}
	if err := decoded(t, sealed(p)); err != api.ErrCanon {
		t.Errorf("of %d paths as long as can be: %v", parts, err)
	}
	few := append([]byte{0x50, 0x51, 0, 0, 2, 1, 0, 4}, one...)
	if err := decoded(t, sealed(few)); err != api.ErrCanon {
		t.Errorf("of a path as long as can be behind an edge: %v", err)
	}
	empty := append(binary.AppendUvarint([]byte{0x50, 0x51, 0, 0}, uint64(n)), make([]byte, 2*n)...)
	if err := decoded(t, sealed(empty)); err != api.ErrCanon {
		t.Errorf("of %d parts without edges: %v", n, err)
	}
}

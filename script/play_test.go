package script_test

import (
	"math/rand/v2"
	"slices"
	"testing"

	"parquetry/api"
	"parquetry/dart"
	"parquetry/euler"
	"parquetry/grow"
	"parquetry/samples"
	"parquetry/script"
)

// model plays p by what the document tells of each kind alone.
func model(p []byte) (*dart.Map, []api.Errno) {
	m := grow.Seed()
	var errs []api.Errno
	for ; len(p) >= 3; p = p[3:] {
		d, e := 0, 0
		if n := m.Darts(); n > 0 {
			d, e = int(p[1])%n, int(p[2])%n
		}
		next, err := wanted(kindNames[int(p[0])%11], m, d, e)
		if err == api.OK {
			m = next
		}
		errs = append(errs, err)
	}
	return m, errs
}

// checkPlay holds what is played against the model, and that it is planar; it
// answers both.
func checkPlay(t *testing.T, p []byte) (*dart.Map, []api.Errno) {
	t.Helper()
	given := slices.Clone(p)
	m, errs := script.Play(p)
	want, wantErrs := model(p)
	if !dart.Same(m, want) || !slices.Equal(errs, wantErrs) {
		t.Fatalf("Play of %v: %v, %v, want %v, %v", p, m.List(), errs, want.List(), wantErrs)
	}
	if !euler.Planar(m) {
		t.Fatalf("Play of %v: %v isn't planar", p, m.List())
	}
	if !slices.Equal(p, given) {
		t.Fatalf("Play changed %v", given)
	}
	return m, errs
}

// TestP24_2Known holds what is played against what the words make of it.
func TestP24_2Known(t *testing.T) {
	for _, x := range []struct {
		what string
		p    []byte
		want []int
		root int
		lone int
		errs []api.Errno
	}{
		{"nothing", nil, []int{0, 1}, 0, 0, nil},
		{"a byte", []byte{0}, []int{0, 1}, 0, 0, nil},
		{"two bytes", []byte{0, 0}, []int{0, 1}, 0, 0, nil},
		{"a leaf", []byte{0, 0, 0}, []int{2, 1, 0, 3}, 0, 0, []api.Errno{api.OK}},
		{"a leaf, and some left over", []byte{0, 0, 0, 6, 0}, []int{2, 1, 0, 3}, 0, 0, []api.Errno{api.OK}},
		{"a leaf by another byte", []byte{22, 0, 0}, []int{2, 1, 0, 3}, 0, 0, []api.Errno{api.OK}},
		{"a leaf, its dart modulo 2", []byte{0, 255, 0}, []int{0, 2, 1, 3}, 0, 0, []api.Errno{api.OK}},
		{"leaves, the second's dart modulo 4", []byte{0, 1, 0, 0, 7, 0}, []int{0, 2, 1, 4, 3, 5}, 0, 0, []api.Errno{api.OK, api.OK}},
		{"a triangle, by both darts modulo 4", []byte{0, 0, 0, 1, 43, 21}, []int{2, 5, 0, 4, 3, 1}, 0, 0, []api.Errno{api.OK, api.OK}},
		{"a flip, that can't be", []byte{4, 0, 0, 0, 0, 0}, []int{2, 1, 0, 3}, 0, 0, []api.Errno{api.ErrDomain, api.OK}},
		{"a root modulo 2", []byte{5, 3, 0}, []int{0, 1}, 1, 0, []api.Errno{api.OK}},
		{"a loop", []byte{6, 9, 9}, []int{1, 0}, 0, 0, []api.Errno{api.OK}},
		{"a loop, that can't be shrunk", []byte{6, 9, 9, 9, 1, 1}, []int{1, 0}, 0, 0, []api.Errno{api.OK, api.ErrDomain}},
		{"a lone vertex", []byte{9, 1, 0}, nil, -1, 1, []api.Errno{api.OK}},
		{
			"all of two lone vertices", []byte{8, 255, 0, 0, 3, 0, 1, 255, 255, 2, 1, 1, 3, 1, 1, 4, 1, 1, 5, 1, 1, 6, 1, 1, 7, 1, 1, 8, 1, 1, 9, 2, 2, 10, 1, 1},
			nil, -1, 2,
			[]api.Errno{api.OK, api.ErrRange, api.ErrRange, api.ErrRange, api.ErrRange, api.ErrRange, api.ErrRoot, api.OK, api.OK, api.ErrRange, api.ErrRange, api.OK},
		},
	} {
		m, errs := checkPlay(t, x.p)
		if !dart.Same(m, samples.Map(t, x.want, x.root, x.lone)) || !slices.Equal(errs, x.errs) {
			t.Errorf("%s: %v, %d, %d, %v", x.what, m.List(), m.Root(), m.Lone(), errs)
		}
	}
}

// TestP24_2AllShort plays all kinds one behind another, thrice, at few darts.
func TestP24_2AllShort(t *testing.T) {
	var acts [][]byte
	for kind := range byte(script.Kinds) {
		acts = append(acts, []byte{kind, 0, 0}, []byte{kind, 1, 0}, []byte{kind, 3, 254}, []byte{kind + 11, 254, 3})
	}
	for _, first := range acts {
		checkPlay(t, first)
		for _, second := range acts {
			checkPlay(t, slices.Concat(first, second))
			for _, third := range acts {
				checkPlay(t, slices.Concat(first, second, third))
			}
		}
	}
}

// TestP24_2Any plays any bytes, of some kinds alone too, so that maps grow, or
// fall apart.
func TestP24_2Any(t *testing.T) {
	r := rand.New(rand.NewPCG(243, 244))
	met := map[api.Errno]int{}
	edges, parts, bare := 0, 0, 0
	for i := range 1500 {
		kinds := r.Perm(256)[:1+r.IntN(20)]
		p := make([]byte, r.IntN(300))
		for j := range p {
			p[j] = byte(r.IntN(256))
			if i%2 == 0 && j%3 == 0 {
				p[j] = byte(kinds[r.IntN(len(kinds))])
			}
		}
		m, errs := checkPlay(t, p)
		for _, err := range errs {
			met[err]++
		}
		edges, parts = max(edges, m.Edges()), max(parts, len(euler.Parts(m)))
		if m.Edges() == 0 {
			bare++
		}
	}
	for _, err := range []api.Errno{api.OK, api.ErrRange, api.ErrRoot, api.ErrDomain} {
		if met[err] == 0 {
			t.Errorf("%v isn't met: %v", err, met)
		}
	}
	if edges < 150 || parts < 10 || bare == 0 {
		t.Error(edges, parts, bare)
	}
}

// TestP24_2Goes plays scripts on: what a longer one makes is what its last act
// makes of the shorter one's map.
func TestP24_2Goes(t *testing.T) {
	r := rand.New(rand.NewPCG(245, 246))
	var p []byte
	ahead, _ := script.Play(nil)
	if !dart.Same(ahead, grow.Seed()) {
		t.Fatal(ahead.List())
	}
	for i := range 150 {
		p = append(p, byte(r.IntN(256)), byte(r.IntN(256)), byte(r.IntN(256)))
		a := script.Read(p)[i]
		n := max(1, ahead.Darts())
		want, err := script.Do(ahead, script.Act{Kind: a.Kind, D: a.D % n, E: a.E % n})
		if err != api.OK {
			want = ahead
		}
		m, errs := script.Play(p)
		if !dart.Same(m, want) || len(errs) != i+1 || errs[i] != err {
			t.Fatalf("Play of %v: %v, %v, want %v, %v", p, m.List(), errs, want.List(), err)
		}
		ahead = m
	}
}

// grown answers a script of so many edges, edges*(2*stars+1) in all: a tree,
// with a star around it; then, time and again, what was the last star's hub is
// a face, with a star in it.
func grown(edges, stars int) []byte {
	p := make([]byte, 3*(edges-1))
	p = append(p, script.Star, 0, 0)
	for range stars - 1 {
		// By its canonical names the root's mate has a hub's dart, the dart 3,
		// behind it.
		p = append(p, script.Canon, 0, 0, script.Dual, 0, 0, script.Root, 3, 0, script.Star, 3, 0)
	}
	return p
}

// TestP24_2Large plays till there are as many edges as can be.
func TestP24_2Large(t *testing.T) {
	p := grown(4369, 7) // there is room for one edge more
	ahead := len(p) / 3
	p = append(p, script.Star, 0, 0, script.Split, 9, 0, script.Leaf, 3, 0, script.Chord, 1, 1, script.Star, 1, 1, script.Split, 9, 0, script.Cut, 5, 0, script.Chord, 1, 1)
	m, errs := script.Play(p)
	if slices.Max(errs[:ahead]) != api.OK {
		t.Fatal("it doesn't grow")
	}
	if want := []api.Errno{api.ErrLarge, api.OK, api.ErrLarge, api.ErrLarge, api.ErrLarge, api.ErrLarge, api.OK, api.OK}; !slices.Equal(errs[ahead:], want) {
		t.Errorf("at the end: %v", errs[ahead:])
	}
	if m.Edges() != api.MaxEdges || !euler.Planar(m) {
		t.Error(m.Edges())
	}
}

func TestExamples(t *testing.T) {
	m, errs := script.Play([]byte{0, 0, 0})
	if !dart.Same(m, samples.Map(t, []int{2, 1, 0, 3}, 0, 0)) || len(errs) != 1 || errs[0] != api.OK {
		t.Error(m.List(), errs)
	}
}

package script_test

import (
	"math"
	"math/rand/v2"
	"slices"
	"testing"

	"parquetry/api"
	"parquetry/canon"
	"parquetry/dart"
	"parquetry/dual"
	"parquetry/grow"
	"parquetry/samples"
	"parquetry/script"
)

// kindNames are the kinds' names, each at the place that is its number.
var kindNames = []string{"leaf", "chord", "split", "star", "flip", "root", "dual", "mirror", "cut", "shrink", "canon"}

// triangle answers one with a lone vertex: 0, 2, 4 are its one face's darts,
// 5, 3, 1 the other's.
func triangle(t *testing.T) *dart.Map {
	t.Helper()
	return samples.Turned(t, 4, 1, []int{0, 5}, []int{1, 2}, []int{3, 4})
}

// maps answers some of all kinds, those without darts too.
func maps(t *testing.T) []*dart.Map {
	t.Helper()
	r := rand.New(rand.NewPCG(241, 242))
	all := []*dart.Map{
		samples.Map(t, nil, -1, 0), samples.Map(t, nil, -1, 3), triangle(t), samples.Faced(t, samples.Torus()...),
		samples.Beside(t, samples.Triangulation(t, r.IntN, 6), samples.Map(t, nil, -1, 1), samples.Triangle(t)),
	}
	for i, sigma := range slices.Concat(samples.Perms(2), samples.Perms(4)) {
		all = append(all, samples.Map(t, sigma, i%len(sigma), i%2))
	}
	for edges := 3; edges < 9; edges++ {
		some := samples.Map(t, samples.Shuffled(r.IntN, 2*edges), r.IntN(2*edges), 0)
		all = append(all, samples.Planar(t, r.IntN, edges), some, samples.Map(t, samples.Split(r.IntN, 2*edges), 1, 2))
	}
	return all
}

// wanted is what the document tells of a kind, by its name.
func wanted(name string, m *dart.Map, d, e int) (*dart.Map, api.Errno) {
	edge := int(math.Floor(float64(d) / 2))
	switch name {
	case "leaf":
		return grow.Leaf(m, d)
	case "chord":
		return grow.Chord(m, d, e)
	case "split":
		return grow.Split(m, d)
	case "star":
		return grow.Star(m, d)
	case "flip":
		return grow.Flip(m, d)
	case "root":
		return m.Rooted(d)
	case "dual":
		return dual.Dual(m), api.OK
	case "mirror":
		return dual.Mirror(m), api.OK
	case "cut":
		return dual.Cut(m, edge)
	case "shrink":
		return dual.Shrink(m, edge)
	}
	named, _, err := canon.Canon(m)
	return named, err
}

// TestP24_1Layers holds all kinds at all darts, and beside them, against what
// the layers' own calls answer.
func TestP24_1Layers(t *testing.T) {
	met := map[string]map[api.Errno]int{}
	for kind, name := range kindNames {
		met[name] = map[api.Errno]int{}
		for _, m := range maps(t) {
			sigma, root, lone := m.List(), m.Root(), m.Lone()
			for d := -3; d < m.Darts()+3; d++ {
				for _, e := range []int{-1, 0, 1, d, m.Darts() - 1, m.Darts()} {
					want, wantErr := wanted(name, m, d, e)
					got, err := script.Do(m, script.Act{Kind: kind, D: d, E: e})
					if err != wantErr || !dart.Same(got, want) || (got == nil) != (err != api.OK) {
						t.Fatalf("%s of %v at %d, %d: %v, %v, want %v, %v", name, sigma, d, e, got.List(), err, want.List(), wantErr)
					}
					met[name][err]++
				}
			}
			if !slices.Equal(m.List(), sigma) || m.Root() != root || m.Lone() != lone {
				t.Fatalf("%s changed %v", name, sigma)
			}
		}
		if met[name][api.OK] == 0 {
			t.Errorf("%s never went well", name)
		}
	}
	for name, err := range map[string]api.Errno{
		"leaf": api.ErrRange, "chord": api.ErrDomain, "split": api.ErrRange, "star": api.ErrRange, "flip": api.ErrDomain,
		"root": api.ErrRoot, "cut": api.ErrRange, "shrink": api.ErrDomain,
	} {
		if met[name][err] == 0 {
			t.Errorf("%s: %v isn't met", name, err)
		}
	}
	for _, name := range []string{"dual", "mirror", "canon"} {
		if len(met[name]) != 1 {
			t.Errorf("%s: %v", name, met[name])
		}
	}
}

// TestP24_1Known holds each kind against what the words make of a triangle, and
// of a vertex with three neighbours.
func TestP24_1Known(t *testing.T) {
	tri, fan := triangle(t), samples.Turned(t, 2, 0, []int{0, 2, 4}, []int{1}, []int{3}, []int{5})
	for _, x := range []struct {
		what string
		m    *dart.Map
		act  script.Act
		want []int
		root int
		lone int
	}{
		{"leaf", tri, script.Act{Kind: script.Leaf, D: 1, E: -9}, []int{5, 6, 1, 4, 3, 0, 2, 7}, 4, 1},
		{"chord", tri, script.Act{Kind: script.Chord, D: 1, E: 3}, []int{5, 6, 1, 7, 3, 0, 2, 4}, 4, 1},
		{"chord, the other way", tri, script.Act{Kind: script.Chord, D: 3, E: 1}, []int{5, 7, 1, 6, 3, 0, 4, 2}, 4, 1},
		{"chord in one corner", tri, script.Act{Kind: script.Chord, D: 1, E: 1}, []int{5, 6, 1, 4, 3, 0, 7, 2}, 4, 1},
		{"split", tri, script.Act{Kind: script.Split, D: 1, E: 77}, []int{6, 2, 1, 4, 3, 7, 0, 5}, 4, 1},
		{"star", tri, script.Act{Kind: script.Star, D: 0, E: -1}, []int{5, 8, 1, 10, 3, 6, 0, 11, 2, 7, 4, 9}, 4, 1},
		{"flip", tri, script.Act{Kind: script.Flip, D: 0}, []int{4, 3, 2, 0, 1, 5}, 4, 1},
		{"root", tri, script.Act{Kind: script.Root, D: 2, E: 6}, []int{5, 2, 1, 4, 3, 0}, 2, 1},
		{"dual", tri, script.Act{Kind: script.Dual, D: -1, E: -1}, []int{2, 5, 4, 1, 0, 3}, 4, 1},
		{"dual of a fan", fan, script.Act{Kind: script.Dual}, []int{1, 2, 3, 4, 5, 0}, 2, 0},
		{"mirror of a fan", fan, script.Act{Kind: script.Mirror, D: 6, E: 6}, []int{4, 1, 0, 3, 2, 5}, 2, 0},
		{"cut at an even dart", tri, script.Act{Kind: script.Cut, D: 0, E: 4}, []int{0, 2, 1, 3}, 2, 1},
		{"cut at an odd dart", tri, script.Act{Kind: script.Cut, D: 1, E: 4}, []int{0, 2, 1, 3}, 2, 1},
		{"cut of the root", tri, script.Act{Kind: script.Cut, D: 5}, []int{0, 2, 1, 3}, 3, 1},
		{"cut of a leaf", fan, script.Act{Kind: script.Cut, D: 4}, []int{2, 1, 0, 3}, 2, 1},
		{"shrink at an even dart", tri, script.Act{Kind: script.Shrink, D: 0, E: 3}, []int{3, 2, 1, 0}, 2, 1},
		{"shrink at an odd dart", tri, script.Act{Kind: script.Shrink, D: 1, E: 3}, []int{3, 2, 1, 0}, 2, 1},
		{"canon", tri, script.Act{Kind: script.Canon, D: -5, E: 99}, []int{5, 2, 1, 4, 3, 0}, 0, 1},
		{"canon of a fan", fan, script.Act{Kind: script.Canon}, []int{2, 1, 4, 3, 0, 5}, 0, 0},
	} {
		got, err := script.Do(x.m, x.act)
		if err != api.OK || !dart.Same(got, samples.Map(t, x.want, x.root, x.lone)) {
			t.Errorf("%s: %v, %d, %d, %v", x.what, got.List(), got.Root(), got.Lone(), err)
		}
	}
}

// largest answers a map of as many edges, and lone vertices, as can be: a
// vertex with loops around one another.
func largest(t *testing.T) *dart.Map {
	t.Helper()
	last := 2*api.MaxEdges - 1
	return samples.Map(t, samples.Each(last+1, func(d int) int {
		switch {
		case d == last:
			return last - 1
		case d == 0:
			return 1
		case d%2 == 0:
			return d - 2
		}
		return d + 2
	}), 0, api.MaxLone)
}

// TestP24_1Errors names what goes wrong, case by case.
func TestP24_1Errors(t *testing.T) {
	tri, bare, most := triangle(t), samples.Map(t, nil, -1, 1), largest(t)
	if most.Vertices() != api.MaxLone+1 {
		t.Fatal(most.Vertices())
	}
	full := samples.Map(t, []int{0, 1}, 0, api.MaxLone)
	for _, x := range []struct {
		what string
		m    *dart.Map
		act  script.Act
		want api.Errno
	}{
		{"leaf, no dart", tri, script.Act{Kind: script.Leaf, D: 6}, api.ErrRange},
		{"leaf, below 0", tri, script.Act{Kind: script.Leaf, D: -1}, api.ErrRange},
		{"leaf, without darts", bare, script.Act{Kind: script.Leaf}, api.ErrRange},
		{"leaf, too many", most, script.Act{Kind: script.Leaf, D: 5}, api.ErrLarge},
		{"chord, no dart", tri, script.Act{Kind: script.Chord, D: 6, E: 1}, api.ErrRange},
		{"chord, no other dart", tri, script.Act{Kind: script.Chord, D: 1, E: -1}, api.ErrRange},
		{"chord, two faces", tri, script.Act{Kind: script.Chord, D: 1, E: 2}, api.ErrDomain},
		{"chord, too many", most, script.Act{Kind: script.Chord, D: 5, E: 5}, api.ErrLarge},
		{"split, no dart", tri, script.Act{Kind: script.Split, D: 6}, api.ErrRange},
		{"split, too many", most, script.Act{Kind: script.Split, D: 5}, api.ErrLarge},
		{"star, no dart", tri, script.Act{Kind: script.Star, D: -6}, api.ErrRange},
		{"star, too many", most, script.Act{Kind: script.Star, D: 5}, api.ErrLarge},
		{"flip, no dart", tri, script.Act{Kind: script.Flip, D: 6}, api.ErrRange},
		{"flip, a loop", most, script.Act{Kind: script.Flip}, api.ErrDomain},
		{"root, no dart", tri, script.Act{Kind: script.Root, D: 6, E: 1}, api.ErrRoot},
		{"root, below 0", tri, script.Act{Kind: script.Root, D: -1, E: 1}, api.ErrRoot},
		{"root, without darts", bare, script.Act{Kind: script.Root}, api.ErrRoot},
		{"cut, no edge", tri, script.Act{Kind: script.Cut, D: 6}, api.ErrRange},
		{"cut, below 0", tri, script.Act{Kind: script.Cut, D: -1}, api.ErrRange},
		{"cut, without darts", bare, script.Act{Kind: script.Cut}, api.ErrRange},
		{"cut, far below 0", full, script.Act{Kind: script.Cut, D: math.MinInt}, api.ErrRange},
		{"cut, too many", full, script.Act{Kind: script.Cut, D: 1}, api.ErrLarge},
		{"shrink, no edge", tri, script.Act{Kind: script.Shrink, D: 7}, api.ErrRange},
		{"shrink, below 0", tri, script.Act{Kind: script.Shrink, D: -1}, api.ErrRange},
		{"shrink, a loop", most, script.Act{Kind: script.Shrink, D: 9}, api.ErrDomain},
		{"shrink, too many", full, script.Act{Kind: script.Shrink}, api.ErrLarge},
	} {
		if got, err := script.Do(x.m, x.act); got != nil || err != x.want {
			t.Errorf("%s: %v, %v, want %v", x.what, got.List(), err, x.want)
		}
	}
}

// TestP24_1NoKind asks for kinds that there aren't, and of a nil map.
func TestP24_1NoKind(t *testing.T) {
	none := []int{math.MinInt, -11, -1, script.Kinds, script.Kinds + 1, 22, 255, 256, math.MaxInt}
	for _, at := range []int{math.MinInt, -1, 0, 1, 6, math.MaxInt} {
		for _, kind := range none {
			for _, m := range []*dart.Map{triangle(t), samples.Map(t, nil, -1, 0)} {
				if got, err := script.Do(m, script.Act{Kind: kind, D: at, E: at}); got != nil || err != api.ErrOption {
					t.Errorf("the kind %d at %d: %v, %v", kind, at, got.List(), err)
				}
			}
		}
		for kind := range script.Kinds {
			none = append(none, kind)
		}
		for _, kind := range none {
			if got, err := script.Do(nil, script.Act{Kind: kind, D: at, E: at}); got != nil || err != api.ErrNone {
				t.Errorf("the kind %d of nil at %d: %v, %v", kind, at, got.List(), err)
			}
		}
		none = none[:len(none)-script.Kinds]
	}
}

// TestP24_2Read holds what is read against the bytes, at all kinds and at all
// counts.
func TestP24_2Read(t *testing.T) {
	var all []byte
	for b := range 256 {
		all = append(all, byte(b), byte(b*7+1), byte(255-b))
	}
	given := slices.Clone(all)
	for n := range len(all) + 1 {
		acts := script.Read(all[:n])
		if len(acts) != n/3 {
			t.Fatalf("of %d bytes: %d acts", n, len(acts))
		}
		for i, a := range acts {
			if (a != script.Act{Kind: i % 11, D: (i*7 + 1) % 256, E: 255 - i}) {
				t.Fatalf("the act %d: %v", i, a)
			}
		}
	}
	script.Read(all)[0].D = 9
	if script.Read(all)[0].D != 1 || !slices.Equal(all, given) {
		t.Error("what is read isn't its own")
	}
	if len(script.Read(nil)) != 0 {
		t.Error("of nil something")
	}
}

func TestP24_2Name(t *testing.T) {
	if script.Kinds != len(kindNames) {
		t.Fatal(script.Kinds)
	}
	for _, x := range []struct {
		kind int
		want string
	}{
		{script.Leaf, "leaf"}, {script.Chord, "chord"}, {script.Split, "split"}, {script.Star, "star"}, {script.Flip, "flip"},
		{script.Root, "root"}, {script.Dual, "dual"}, {script.Mirror, "mirror"}, {script.Cut, "cut"}, {script.Shrink, "shrink"}, {script.Canon, "canon"},
		{script.Kinds, ""}, {-1, ""}, {-11, ""}, {22, ""}, {math.MinInt, ""}, {math.MaxInt, ""},
	} {
		if got := script.Name(x.kind); got != x.want {
			t.Errorf("the kind %d: %q", x.kind, got)
		}
	}
	for kind, name := range kindNames {
		if script.Name(kind) != name {
			t.Errorf("the kind %d isn't %s", kind, name)
		}
	}
}

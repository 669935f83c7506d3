package samples_test

import (
	"math/rand/v2"
	"slices"
	"testing"

	"parquetry/api"
	"parquetry/canon"
	"parquetry/dart"
	"parquetry/euler"
	"parquetry/samples"
	"parquetry/turan"
)

// different is how many of these there are that are not the same.
func different[T any](all []T, key func(x T) string) int {
	met := map[string]int{}
	for _, x := range all {
		met[key(x)]++
	}
	return len(met)
}

// text is a list as a text.
func text(l []int) string {
	var s []rune
	for _, x := range l {
		s = append(s, rune(x))
	}
	return string(s)
}

func TestLists(t *testing.T) {
	if all := samples.Texts("()[]", 4); len(all) != 256 || different(all, func(s string) string { return s }) != 256 || !slices.Contains(all, "([)]") {
		t.Errorf("Texts: %d", len(all))
	}
	if all := samples.Perms(5); len(all) != 120 || different(all, text) != 120 {
		t.Errorf("Perms: %d", len(all))
	}
	if all := samples.AllNames(3); len(all) != 48 || different(all, text) != 48 {
		t.Errorf("AllNames: %d", len(all))
	}
	r := rand.New(rand.NewPCG(1, 2))
	for n := range 40 {
		if s := samples.RightText(r.IntN, n, 1+r.IntN(9), 1+r.IntN(9)); len(s) != 2*n || turan.Check(samples.Word(t, s)) != api.OK {
			t.Errorf("RightText: %s", s)
		}
		for _, l := range [][]int{samples.Shuffled(r.IntN, n), samples.Names(r.IntN, n), samples.Split(r.IntN, n), samples.Path(2*n + 2)} {
			samples.Perm(t, l)
		}
	}
	if s := samples.Vec("0110").Text(); s != "0110" || !samples.IsBalanced("([)]", "[]") || samples.IsBalanced(")(", "()") {
		t.Error(s)
	}
}

func TestMaps(t *testing.T) {
	for i, want := range []int{1, 1, 3, 13} {
		all := samples.Triangulations(t, i+3)
		if len(all) != want || slices.ContainsFunc(all, func(m *dart.Map) bool { return !euler.Triangulation(m) }) {
			t.Errorf("Triangulations of %d: %d", i+3, len(all))
		}
	}
	r := rand.New(rand.NewPCG(3, 4))
	for n := 3; n < 30; n++ {
		m := samples.Triangulation(t, r.IntN, n)
		if m.Vertices() != n || !euler.Triangulation(m) || !canon.Iso(m, samples.Renamed(t, r.IntN, m)) {
			t.Errorf("Triangulation of %d", n)
		}
	}
	for edges := 1; edges < 30; edges++ {
		m := samples.Planar(t, r.IntN, edges)
		if m.Edges() != edges || !euler.Connected(m) || !euler.Planar(m) {
			t.Errorf("Planar of %d", edges)
		}
		both := samples.Beside(t, m, samples.Map(t, nil, -1, 2), samples.Triangle(t))
		if both.Edges() != edges+3 || both.Lone() != 2 || len(euler.Parts(both)) != 4 || both.Sigma(2*edges) < 2*edges {
			t.Errorf("Beside of %d", edges)
		}
	}
	if m := samples.Beside(t); m.Root() != -1 || m.Lone() != 0 {
		t.Error("Beside of none")
	}
	for name, m := range samples.NoTriangulations(t) {
		if euler.Triangulation(m) {
			t.Errorf("NoTriangulations: %s", name)
		}
	}
	if m := samples.Faced(t, samples.Wheel(6)...); m.Vertices() != 6 || !euler.Triangulation(m) {
		t.Error("Wheel")
	}
}

package perm_test

import (
	"math"
	"slices"
	"sync"
	"testing"

	"parquetry/api"
	"parquetry/perm"
	"parquetry/samples"
)

// lists answers all lists of n numbers from -1 to n.
func lists(n int) [][]int {
	all := [][]int{{}}
	for range n {
		var longer [][]int
		for _, l := range all {
			for x := -1; x <= n; x++ {
				longer = append(longer, append(slices.Clone(l), x))
			}
		}
		all = longer
	}
	return all
}

// isPerm tells whether l, sorted, is 0, 1, .. .
func isPerm(l []int) bool {
	for i, x := range slices.Sorted(slices.Values(l)) {
		if i != x {
			return false
		}
	}
	return true
}

// check holds all that p tells of single numbers against the list l.
func check(t *testing.T, p *perm.Perm, l []int) {
	t.Helper()
	if p.Len() != len(l) || !slices.Equal(p.List(), l) {
		t.Fatalf("Len %d, List %v, want %v", p.Len(), p.List(), l)
	}
	for i, to := range l {
		if p.At(i) != to || p.Back(to) != i {
			t.Fatalf("of %v: At(%d) %d, Back(%d) %d", l, i, p.At(i), to, p.Back(to))
		}
	}
	for _, i := range []int{math.MinInt, -1, len(l), len(l) + 1, math.MaxInt} {
		if p.At(i) != -1 || p.Back(i) != -1 {
			t.Fatalf("of %v: At(%d) %d, Back %d", l, i, p.At(i), p.Back(i))
		}
	}
}

func TestP5_1Of(t *testing.T) {
	for n := range 5 {
		for _, l := range lists(n) {
			given := slices.Clone(l)
			p, e := perm.Of(l)
			if !slices.Equal(l, given) {
				t.Fatalf("Of wrote over %v", given)
			}
			if !isPerm(l) {
				if p != nil || e != api.ErrPerm {
					t.Fatalf("Of(%v): %v", l, e)
				}
				continue
			}
			if e != api.OK {
				t.Fatalf("Of(%v): %v", l, e)
			}
			check(t, p, l)
		}
	}
	for _, l := range [][]int{{math.MaxInt}, {math.MinInt}, {0, math.MaxInt}, {1, math.MinInt}} {
		if p, e := perm.Of(l); p != nil || e != api.ErrPerm {
			t.Fatalf("Of(%v): %v", l, e)
		}
	}
	check(t, samples.Perm(t, nil), nil)
}

func TestP5_1One(t *testing.T) {
	for _, n := range []int{math.MinInt, -1, 0} {
		check(t, perm.One(n), nil)
	}
	check(t, perm.One(1), []int{0})
	check(t, perm.One(4), []int{0, 1, 2, 3})
	p := perm.One(1000)
	for i := range 1000 {
		if p.At(i) != i || p.Back(i) != i {
			t.Fatal(i)
		}
	}
	// Beyond what one call may answer nothing is promised but an end.
	for _, n := range []int{1 << 28, math.MaxInt} {
		if q := perm.One(n); q.Len() != 0 {
			t.Fatal(n)
		}
	}
}

func TestP5_1Inverse(t *testing.T) {
	for n := range 6 {
		for _, l := range samples.Perms(n) {
			p := samples.Perm(t, l)
			back := make([]int, n)
			for i, to := range l {
				back[to] = i
			}
			check(t, p.Inverse(), back)
			check(t, p.Inverse().Inverse(), l)
			check(t, p, l)
		}
	}
}

func TestP5_1Then(t *testing.T) {
	for n := range 5 {
		for _, a := range samples.Perms(n) {
			for _, b := range samples.Perms(n) {
				p, q := samples.Perm(t, a), samples.Perm(t, b)
				both, e := perm.Then(p, q)
				if e != api.OK {
					t.Fatal(e)
				}
				want := make([]int, n)
				for i := range want {
					want[i] = b[a[i]]
				}
				check(t, both, want)
				check(t, p, a)
				check(t, q, b)
			}
		}
	}
	for n := range 4 {
		for m := range 4 {
			q, e := perm.Then(perm.One(n), perm.One(m))
			if n != m && (q != nil || e != api.ErrRange) {
				t.Fatal(n, m, e)
			}
		}
	}
}

func TestP5_1NewMemory(t *testing.T) {
	l := []int{1, 2, 0, 3}
	p := samples.Perm(t, l)
	l[0], l[1] = 3, 3
	check(t, p, []int{1, 2, 0, 3})
	first, second := p.List(), p.List()
	first[0] = 9
	check(t, p, []int{1, 2, 0, 3})
	if !slices.Equal(second, []int{1, 2, 0, 3}) {
		t.Fatal(second)
	}
	one := perm.One(2)
	one.List()[0] = 9
	one.Inverse().List()[1] = 9
	check(t, one, []int{0, 1})
}

// orbits tells the orbits of a list by nothing but At.
func orbits(p *perm.Perm) (all [][]int, names []int) {
	names = slices.Repeat([]int{-1}, p.Len())
	for i := range names {
		if names[i] >= 0 {
			continue
		}
		var orbit []int
		for at := i; names[at] < 0; at = p.At(at) {
			names[at] = len(all)
			orbit = append(orbit, at)
		}
		all = append(all, orbit)
	}
	return all, names
}

func TestP5_2Orbits(t *testing.T) {
	for n := range 7 {
		for _, l := range samples.Perms(n) {
			p := samples.Perm(t, l)
			all, names := orbits(p)
			if !slices.EqualFunc(p.Orbits(), all, slices.Equal[[]int]) {
				t.Fatalf("Orbits of %v: %v, want %v", l, p.Orbits(), all)
			}
			if !slices.Equal(p.Names(), names) {
				t.Fatalf("Names of %v: %v, want %v", l, p.Names(), names)
			}
			for i := range l {
				orbit := all[names[i]]
				at := slices.Index(orbit, i)
				want := slices.Concat(orbit[at:], orbit[:at])
				if !slices.Equal(p.Orbit(i), want) {
					t.Fatalf("Orbit(%d) of %v: %v, want %v", i, l, p.Orbit(i), want)
				}
			}
			for _, i := range []int{math.MinInt, -1, n, math.MaxInt} {
				if len(p.Orbit(i)) != 0 {
					t.Fatalf("Orbit(%d) of %v: %v", i, l, p.Orbit(i))
				}
			}
		}
	}
}

func TestP5_2Example(t *testing.T) {
	p := samples.Perm(t, []int{2, 1, 0})
	if !slices.EqualFunc(p.Orbits(), [][]int{{0, 2}, {1}}, slices.Equal[[]int]) {
		t.Fatal(p.Orbits())
	}
	if !slices.Equal(p.Names(), []int{0, 1, 0}) || !slices.Equal(p.Orbit(2), []int{2, 0}) {
		t.Fatal(p.Names(), p.Orbit(2))
	}
}

func TestP5_2Long(t *testing.T) {
	const n = 1 << 17
	l := make([]int, n)
	for i := range l {
		l[i] = (i + 2) % n
	}
	p := samples.Perm(t, l)
	all := p.Orbits()
	if len(all) != 2 || len(all[0]) != n/2 || all[1][0] != 1 || all[1][1] != 3 {
		t.Fatal(len(all))
	}
	for i, name := range p.Names() {
		if name != i%2 {
			t.Fatal(i, name)
		}
	}
}

func TestP5_2NewMemory(t *testing.T) {
	l := []int{1, 0, 2, 4, 3}
	p := samples.Perm(t, l)
	all := p.Orbits()
	for i := range all {
		all[i] = append(all[i], 7)
		all[i][0] = 9
	}
	for i, want := range [][]int{{9, 1, 7}, {9, 7}, {9, 4, 7}} {
		if !slices.Equal(all[i], want) {
			t.Fatal("two orbits share memory", all)
		}
	}
	p.Orbit(0)[0] = 9
	p.Names()[0] = 9
	check(t, p, l)
	if !slices.Equal(p.Orbit(0), []int{0, 1}) || !slices.Equal(p.Names(), []int{0, 0, 1, 2, 2}) {
		t.Fatal(p.Orbit(0), p.Names())
	}
}

func TestP5_2Same(t *testing.T) {
	var all [][]int
	for n := range 5 {
		all = append(all, samples.Perms(n)...)
	}
	for _, a := range all {
		for _, b := range all {
			if got := perm.Same(samples.Perm(t, a), samples.Perm(t, b)); got != slices.Equal(a, b) {
				t.Fatalf("Same of %v and %v: %v", a, b, got)
			}
		}
		none := len(a) == 0
		if perm.Same(samples.Perm(t, a), nil) != none || perm.Same(nil, samples.Perm(t, a)) != none {
			t.Fatalf("Same of %v and nil", a)
		}
	}
	if !perm.Same(nil, nil) || !perm.Same(perm.One(3), samples.Perm(t, []int{0, 1, 2})) {
		t.Fatal("Same")
	}
}

func TestP5Nil(t *testing.T) {
	var p *perm.Perm
	if p.Len() != 0 || len(p.List()) != 0 || p.Inverse() != nil || len(p.Orbits()) != 0 || len(p.Names()) != 0 {
		t.Fatal(p.Len(), p.List(), p.Orbits(), p.Names())
	}
	for _, i := range []int{-1, 0, 1} {
		if p.At(i) != -1 || p.Back(i) != -1 || len(p.Orbit(i)) != 0 {
			t.Fatal(i, p.At(i), p.Back(i), p.Orbit(i))
		}
	}
	for _, x := range [][2]*perm.Perm{{nil, nil}, {nil, perm.One(2)}, {perm.One(2), nil}, {perm.One(0), nil}} {
		if q, e := perm.Then(x[0], x[1]); q != nil || e != api.ErrNone {
			t.Fatal(x, q, e)
		}
	}
}

// TestP5Several asks one permutation from several goroutines at a time.
func TestP5Several(t *testing.T) {
	l := []int{3, 0, 1, 2, 5, 4}
	p := samples.Perm(t, l)
	var wait sync.WaitGroup
	right := make([]bool, 8)
	for i := range right {
		wait.Go(func() {
			q, e := perm.Then(p, p.Inverse())
			right[i] = e == api.OK && perm.Same(q, perm.One(6)) && slices.Equal(p.List(), l) &&
				slices.Equal(p.Names(), []int{0, 0, 0, 0, 1, 1}) && slices.Equal(p.Orbit(4), []int{4, 5})
		})
	}
	wait.Wait()
	if slices.Contains(right, false) {
		t.Fatal(right)
	}
}

package look_test

import (
	"math"
	"math/rand/v2"
	"slices"
	"strings"
	"sync"
	"testing"

	"parquetry/api"
	"parquetry/bits"
	"parquetry/dart"
	"parquetry/look"
	"parquetry/mixed"
	"parquetry/samples"
	"parquetry/turan"
	"parquetry/walk"
)

// looked answers the questions to the right word of s.
func looked(t *testing.T, s string) *look.Look {
	t.Helper()
	l, e := look.Of(samples.Word(t, s).Bits())
	if e != api.OK || l == nil {
		t.Fatalf("Of %s: %v", samples.Short(s), e)
	}
	return l
}

// rightTexts answers all texts of right words of so many edges.
func rightTexts(edges int) []string {
	var all []string
	var grow func(s string, left int)
	grow = func(s string, left int) {
		if left == 0 {
			if w, _, _ := mixed.Parse(s); turan.Check(w) == api.OK {
				all = append(all, s)
			}
			return
		}
		for _, sign := range "()[]" {
			grow(s+string(sign), left-1)
		}
	}
	grow("", 2*edges)
	return all
}

// model is the map of a word, by the places of its letters.
type model struct {
	m       *dart.Map
	names   []int // of each place its dart
	places  []int // of each dart its place
	numbers []int // of each vertex of the map its number
}

// modelOf answers the model of a right word.
func modelOf(t *testing.T, s string) model {
	t.Helper()
	w := samples.Word(t, s)
	m, e := turan.Decode(w)
	names, f := turan.Names(w)
	if e != api.OK || f != api.OK {
		t.Fatalf("of %s: Decode %v, Names %v", samples.Short(s), e, f)
	}
	x := model{m: m, names: names, places: make([]int, len(names)), numbers: make([]int, m.Vertices())}
	for i, d := range names {
		x.places[d] = i
	}
	if len(s) > 0 {
		steps, _ := walk.Of(m, m.Root())
		for i, v := range walk.Order(m, steps) {
			x.numbers[v] = i
		}
	}
	return x
}

// number is that of the vertex of the dart at the place i.
func (x model) number(i int) int { return x.numbers[x.m.Vertex(x.names[i])] }

// mate is the place of the other dart of the edge.
func (x model) mate(i int) int { return x.places[x.m.Mate(x.names[i])] }

// around answers the places of each vertex, from the least one on, by Sigma.
func (x model) around() [][]int {
	all := make([][]int, x.m.Vertices())
	for i, d := range x.names {
		v := x.number(i)
		if len(all[v]) > 0 {
			continue
		}
		for _, at := range x.m.Around(d) {
			all[v] = append(all[v], x.places[at])
		}
	}
	return all
}

// checkPlace holds what l tells of the place i against the map.
func checkPlace(t *testing.T, l *look.Look, x model, s string, i int) {
	t.Helper()
	d := x.names[i]
	for _, q := range []struct {
		name string
		ask  func(i int) (int, api.Errno)
		want int
	}{
		{"Mate", l.Mate, x.mate(i)},
		{"Next", l.Next, x.places[x.m.Sigma(d)]},
		{"Back", l.Back, x.places[x.m.Back(d)]},
		{"Along", l.Along, x.places[x.m.Phi(d)]},
		{"Vertex", l.Vertex, x.number(i)},
	} {
		if got, e := q.ask(i); got != q.want || e != api.OK {
			t.Fatalf("%s(%d) of %s: %d, %v, want %d", q.name, i, samples.Short(s), got, e, q.want)
		}
	}
}

// checkFace holds the face from the place i on against the map.
func checkFace(t *testing.T, l *look.Look, x model, s string, i int) {
	t.Helper()
	want := x.m.Border(x.names[i])
	for k, d := range want {
		want[k] = x.places[d]
	}
	if got, e := l.Face(i); !slices.Equal(got, want) || e != api.OK {
		t.Fatalf("Face(%d) of %s: %v, %v, want %v", i, samples.Short(s), got, e, want)
	}
}

// checkVertex holds what l tells of the vertex v, whose places these are,
// against the map.
func checkVertex(t *testing.T, l *look.Look, x model, s string, v int, places []int) {
	t.Helper()
	if got, e := l.First(v); got != places[0] || e != api.OK {
		t.Fatalf("First(%d) of %s: %d, %v, want %d", v, samples.Short(s), got, e, places[0])
	}
	if got, e := l.Degree(v); got != len(places) || e != api.OK {
		t.Fatalf("Degree(%d) of %s: %d, %v, want %d", v, samples.Short(s), got, e, len(places))
	}
	for k, i := range places {
		if got, e := l.Nth(v, k); got != x.number(x.mate(i)) || e != api.OK {
			t.Fatalf("Nth(%d, %d) of %s: %d, %v, want %d", v, k, samples.Short(s), got, e, x.number(x.mate(i)))
		}
	}
	for _, k := range none(len(places)) {
		if got, e := l.Nth(v, k); got != 0 || e != api.ErrRange {
			t.Fatalf("Nth(%d, %d) of %s: %d, %v", v, k, samples.Short(s), got, e)
		}
	}
}

// none are numbers that are none of the first n.
func none(n int) []int { return []int{math.MinInt, -n - 1, -1, n, n + 1, 2*n + 7, math.MaxInt} }

// checkNone asks l for places and vertices that there aren't.
func checkNone(t *testing.T, l *look.Look, s string) {
	t.Helper()
	for _, i := range none(len(s)) {
		for name, ask := range map[string]func(i int) (int, api.Errno){
			"Mate": l.Mate, "Next": l.Next, "Back": l.Back, "Along": l.Along, "Vertex": l.Vertex,
		} {
			if got, e := ask(i); got != 0 || e != api.ErrRange {
				t.Fatalf("%s(%d) of %s: %d, %v", name, i, samples.Short(s), got, e)
			}
		}
		if got, e := l.Face(i); len(got) != 0 || e != api.ErrRange {
			t.Fatalf("Face(%d) of %s: %v, %v", i, samples.Short(s), got, e)
		}
	}
	for _, v := range none(l.Vertices()) {
		for name, ask := range map[string]func() (int, api.Errno){
			"First":  func() (int, api.Errno) { return l.First(v) },
			"Degree": func() (int, api.Errno) { return l.Degree(v) },
			"Nth":    func() (int, api.Errno) { return l.Nth(v, 0) },
		} {
			if got, e := ask(); got != 0 || e != api.ErrRange {
				t.Fatalf("%s(%d) of %s: %d, %v", name, v, samples.Short(s), got, e)
			}
		}
		for _, pair := range [][2]int{{0, v}, {v, 0}, {v, v}} {
			if got, e := l.Adjacent(pair[0], pair[1]); got || e != api.ErrRange {
				t.Fatalf("Adjacent(%d, %d) of %s: %v, %v", pair[0], pair[1], samples.Short(s), got, e)
			}
		}
	}
}

// checkAll holds all that the right word of s answers against its map.
func checkAll(t *testing.T, s string) {
	t.Helper()
	l, x := looked(t, s), modelOf(t, s)
	if l.Edges() != x.m.Edges() || l.Vertices() != x.m.Vertices() {
		t.Fatalf("of %s: %d edges, %d vertices, want %d, %d", samples.Short(s), l.Edges(), l.Vertices(), x.m.Edges(), x.m.Vertices())
	}
	for i := range x.names {
		checkPlace(t, l, x, s, i)
		checkFace(t, l, x, s, i)
	}
	for u, places := range x.around() {
		checkVertex(t, l, x, s, u, places)
		joined := make([]int, l.Vertices())
		for _, i := range places {
			joined[x.number(x.mate(i))]++
		}
		for v, n := range joined {
			if got, e := l.Adjacent(u, v); got != (n > 0) || e != api.OK {
				t.Fatalf("Adjacent(%d, %d) of %s: %v, %v, want %d", u, v, samples.Short(s), got, e, n)
			}
		}
	}
	checkNone(t, l, s)
}

func TestP13_1Errors(t *testing.T) {
	for n := range 7 {
		for k := range 1 << (2 * n) {
			v := bits.New()
			v.Num(uint64(k), 2*n)
			w, _ := mixed.Of(v)
			l, e := look.Of(v)
			if want := turan.Check(w); e != want || (l != nil) != (e == api.OK) {
				t.Fatalf("Of %s: %v, want %v", w.Text(), e, want)
			}
			v.Add(k % 2)
			if l, e := look.Of(v); l != nil || e != api.ErrForm {
				t.Fatalf("Of %s: %v", v.Text(), e)
			}
		}
	}
	many := strings.Repeat
	for s, want := range map[string]api.Errno{
		"(":    api.ErrBalance,
		"][":   api.ErrBalance,
		"[(])": api.ErrCanon,
		many("()", 700) + "[" + many("()", 700) + "(])": api.ErrCanon,
		many("[(])", 700) + ")":                         api.ErrBalance,
	} {
		if l, e := look.Of(samples.Word(t, s).Bits()); l != nil || e != want {
			t.Errorf("Of %s: %v, want %v", samples.Short(s), e, want)
		}
	}
}

func TestP13_1Counts(t *testing.T) {
	for s, want := range map[string][2]int{
		"": {0, 1}, "()": {1, 2}, "[]": {1, 1}, "(([))]": {3, 3}, "[][]": {2, 1}, "()()": {2, 3}, "([)]": {2, 2},
	} {
		l := looked(t, s)
		if got := [2]int{l.Edges(), l.Vertices()}; got != want {
			t.Errorf("of %s: %v, want %v", s, got, want)
		}
	}
}

func TestP13_1AsAtOf(t *testing.T) {
	w := samples.Word(t, "(([))]")
	v := w.Bits()
	l, e := look.Of(v)
	if e != api.OK || !bits.Same(v, w.Bits()) {
		t.Fatal(e, v.Text())
	}
	v.Num(math.MaxUint64, 64)
	x := modelOf(t, "(([))]")
	for i := range x.names {
		checkPlace(t, l, x, "(([))]", i)
	}
	checkNone(t, l, "(([))]")
}

// TestP13_LoneVertex asks the word without letters.
func TestP13_LoneVertex(t *testing.T) {
	for _, v := range []*bits.Vec{nil, bits.New()} {
		l, e := look.Of(v)
		if e != api.OK || l == nil || l.Edges() != 0 || l.Vertices() != 1 || l.Size() < 0 || l.Size() > 4096 {
			t.Fatal(l, e)
		}
		if i, e := l.First(0); i != 0 || e != api.ErrRange {
			t.Error(i, e)
		}
		if n, e := l.Degree(0); n != 0 || e != api.OK {
			t.Error(n, e)
		}
		if joined, e := l.Adjacent(0, 0); joined || e != api.OK {
			t.Error(joined, e)
		}
		if u, e := l.Nth(0, 0); u != 0 || e != api.ErrRange {
			t.Error(u, e)
		}
		if l.Asked() != 4 {
			t.Error(l.Asked())
		}
		checkNone(t, l, "")
	}
}

func TestP13_2AllSmall(t *testing.T) {
	for edges, want := range []int{1, 2, 9, 54, 378} {
		all := rightTexts(edges)
		if len(all) != want {
			t.Fatalf("%d right words of %d edges, want %d", len(all), edges, want)
		}
		if edges == 0 {
			continue
		}
		for _, s := range all {
			checkAll(t, s)
		}
	}
}

func TestP13_2Random(t *testing.T) {
	r := rand.New(rand.NewPCG(91, 92))
	for _, edges := range []int{5, 8, 20, 127, 128, 129, 260} {
		for range 10 {
			checkAll(t, samples.RightText(r.IntN, edges, 1+r.IntN(9), 1+r.IntN(9)))
		}
	}
}

// TestP13_2Known asks what was gone through by hand: a loop at the end of an
// edge that another edge is beside, and an edge within the loop.
func TestP13_2Known(t *testing.T) {
	l := looked(t, "([[()])]")
	for name, x := range map[string]struct {
		ask  func(i int) (int, api.Errno)
		want []int
	}{
		"Mate":   {l.Mate, []int{6, 7, 5, 4, 3, 2, 0, 1}},
		"Next":   {l.Next, []int{7, 2, 3, 5, 4, 6, 1, 0}},
		"Back":   {l.Back, []int{7, 6, 1, 2, 4, 3, 5, 0}},
		"Along":  {l.Along, []int{1, 0, 6, 4, 5, 3, 7, 2}},
		"Vertex": {l.Vertex, []int{0, 1, 1, 1, 2, 1, 1, 0}},
	} {
		for i, want := range x.want {
			if got, e := x.ask(i); got != want || e != api.OK {
				t.Errorf("%s(%d): %d, %v, want %d", name, i, got, e, want)
			}
		}
	}
	for v, want := range [][]int{{1, 1}, {0, 1, 2, 1, 0}, {1}} {
		if n, e := l.Degree(v); n != len(want) || e != api.OK {
			t.Errorf("Degree(%d): %d, %v", v, n, e)
		}
		for k, u := range want {
			if got, e := l.Nth(v, k); got != u || e != api.OK {
				t.Errorf("Nth(%d, %d): %d, %v, want %d", v, k, got, e, u)
			}
		}
	}
	for i, want := range [][]int{{0, 1}, {1, 0}, {2, 6, 7}, {3, 4, 5}} {
		if got, e := l.Face(i); !slices.Equal(got, want) || e != api.OK {
			t.Errorf("Face(%d): %v, %v, want %v", i, got, e, want)
		}
	}
	for pair, want := range map[[2]int]bool{{0, 0}: false, {0, 1}: true, {1, 0}: true, {1, 1}: true, {0, 2}: false, {2, 0}: false, {2, 2}: false, {1, 2}: true} {
		if got, e := l.Adjacent(pair[0], pair[1]); got != want || e != api.OK {
			t.Errorf("Adjacent of %v: %v, %v", pair, got, e)
		}
	}
}

// large are words of maps as large as can be.
func large(r *rand.Rand) map[string]string {
	n := api.MaxEdges
	many := strings.Repeat
	return map[string]string{
		"a path":                many("(", n) + many(")", n),
		"a path there and back": many("(", n/2) + many("[", n/2) + many(")", n/2) + many("]", n/2),
		"a star":                many("()", n),
		"loops side by side":    many("[]", n),
		"loops in one another":  many("[", n) + many("]", n),
		"loops along a path":    many("([", n/2) + many("])", n/2),
		"edges side by side":    "(" + many("[", n-1) + ")" + many("]", n-1),
		"loops around a star":   many("[", n/2) + many("()", n/2) + many("]", n/2),
		"any":                   samples.RightText(r.IntN, n, 5, 6),
		"any, of few vertices":  samples.RightText(r.IntN, n, 1, 5),
		"any, of many vertices": samples.RightText(r.IntN, n, 9, 5),
	}
}

// TestP13_2Large asks here and there of what is as large as can be.
func TestP13_2Large(t *testing.T) {
	r := rand.New(rand.NewPCG(93, 94))
	for name, s := range large(r) {
		l, x := looked(t, s), modelOf(t, s)
		if l.Edges() != api.MaxEdges || l.Vertices() != x.m.Vertices() {
			t.Fatalf("%s: %d edges, %d vertices", name, l.Edges(), l.Vertices())
		}
		for i := 0; i < len(s); i += 1 + r.IntN(60) {
			checkPlace(t, l, x, s, i)
		}
		checkPlace(t, l, x, s, len(s)-1)
		checkFace(t, l, x, s, r.IntN(len(s)))
		around := x.around()
		for range 30 {
			u, v := r.IntN(len(around)), r.IntN(len(around))
			first, _ := l.First(u)
			degree, _ := l.Degree(u)
			if first != around[u][0] || degree != len(around[u]) {
				t.Fatalf("%s, of %d: First %d, Degree %d, want %d, %d", name, u, first, degree, around[u][0], len(around[u]))
			}
			k := r.IntN(degree)
			end := x.number(x.mate(around[u][k]))
			if got, e := l.Nth(u, k); got != end || e != api.OK {
				t.Fatalf("%s: Nth(%d, %d): %d, %v, want %d", name, u, k, got, e, end)
			}
			for _, v := range []int{v, end} {
				want := slices.ContainsFunc(around[u], func(i int) bool { return x.number(x.mate(i)) == v })
				if got, e := l.Adjacent(u, v); got != want || e != api.OK {
					t.Fatalf("%s: Adjacent(%d, %d): %v, %v", name, u, v, got, e)
				}
			}
		}
		checkNone(t, l, s)
	}
}

// TestP13_2Star asks who is joined to the middle of a star, one edge of which
// goes on to a last vertex: it is told without going around the middle.
func TestP13_2Star(t *testing.T) {
	last := api.MaxEdges
	l := looked(t, strings.Repeat("()", last-2)+"(())")
	for v := 1; v < last; v++ {
		for _, x := range []struct {
			u, v int
			want bool
		}{
			{v, 0, true}, {0, v, true}, {last, 0, false}, {0, last, false},
			{v, last, v == last-1}, {last, v, v == last-1},
		} {
			if joined, e := l.Adjacent(x.u, x.v); joined != x.want || e != api.OK {
				t.Fatal(x.u, x.v, joined, e)
			}
		}
	}
}

func TestP13_2NewMemory(t *testing.T) {
	l := looked(t, "(([))]")
	for range 2 {
		face, e := l.Face(2)
		if e != api.OK || !slices.Equal(face, []int{2, 0, 1}) {
			t.Fatal(face, e)
		}
		clear(face)
	}
}

// asked asks l each question once, of right numbers or of i.
func asked(l *look.Look, i int) {
	l.Mate(i)
	l.Next(i)
	l.Back(i)
	l.Along(i)
	l.Vertex(i)
	l.First(i)
	l.Degree(i)
	l.Nth(i, 0)
	l.Adjacent(i, 0)
	l.Face(i)
}

func TestP13_3Asked(t *testing.T) {
	l := looked(t, "(([))]")
	for k, i := range []int{0, 2, -1, 6, math.MaxInt, math.MinInt, 1, 3} {
		if l.Asked() != int64(10*k) {
			t.Fatalf("%d asked ahead of %d", l.Asked(), i)
		}
		asked(l, i)
		l.Edges()
		l.Vertices()
		l.Size()
	}
	l.Nth(0, 9)
	l.Adjacent(0, 9)
	if l.Asked() != 82 {
		t.Fatal(l.Asked())
	}
	if other := looked(t, "(([))]"); other.Asked() != 0 {
		t.Fatal(other.Asked())
	}
}

// TestP13_3AtOnce lets several goroutines ask, the first questions too.
func TestP13_3AtOnce(t *testing.T) {
	s := samples.RightText(rand.New(rand.NewPCG(95, 96)).IntN, 700, 6, 6)
	l, x := looked(t, s), modelOf(t, s)
	var all sync.WaitGroup
	wrong := make([]int, 8)
	for k := range wrong {
		all.Go(func() {
			for i, d := range x.names {
				next, _ := l.Next(i)
				v, _ := l.Vertex(i)
				l.Face(-1)
				if next != x.places[x.m.Sigma(d)] || v != x.number(i) {
					wrong[k]++
				}
			}
			asked(l, k)
		})
	}
	all.Wait()
	if slices.Max(wrong) > 0 || l.Asked() != int64(len(wrong)*(3*len(s)+10)) {
		t.Fatal(wrong, l.Asked())
	}
}

func TestP13_3Size(t *testing.T) {
	r := rand.New(rand.NewPCG(97, 98))
	for _, edges := range []int{1, 2, 127, 128, 129, 255, 256, 257, 512, 513, 1024, 1025, 3000, 1<<14 - 1, 1 << 14, 1<<14 + 1, api.MaxEdges - 1, api.MaxEdges} {
		for _, s := range []string{
			strings.Repeat("()", edges), strings.Repeat("[]", edges), samples.RightText(r.IntN, edges, 5, 5),
		} {
			l := looked(t, s)
			size := l.Size()
			// There is an entry for each block, at least.
			if size > 4*edges+4096 || size < 2*edges/api.Block*32 {
				t.Errorf("Size of %d edges, %s: %d", edges, samples.Short(s), size)
			}
			asked(l, 0)
			if l.Size() != size {
				t.Errorf("Size of %d edges, %s: %d, then %d", edges, samples.Short(s), size, l.Size())
			}
		}
	}
}

func TestP13_Nil(t *testing.T) {
	var l *look.Look
	if l.Edges() != 0 || l.Vertices() != 0 || l.Asked() != 0 || l.Size() != 0 {
		t.Fatal(l.Edges(), l.Vertices(), l.Asked(), l.Size())
	}
	for _, i := range []int{math.MinInt, -1, 0, 1, math.MaxInt} {
		for name, ask := range map[string]func() (int, api.Errno){
			"Mate":   func() (int, api.Errno) { return l.Mate(i) },
			"Next":   func() (int, api.Errno) { return l.Next(i) },
			"Back":   func() (int, api.Errno) { return l.Back(i) },
			"Along":  func() (int, api.Errno) { return l.Along(i) },
			"Vertex": func() (int, api.Errno) { return l.Vertex(i) },
			"First":  func() (int, api.Errno) { return l.First(i) },
			"Degree": func() (int, api.Errno) { return l.Degree(i) },
			"Nth":    func() (int, api.Errno) { return l.Nth(i, i) },
		} {
			if got, e := ask(); got != 0 || e != api.ErrNone {
				t.Errorf("%s(%d): %d, %v", name, i, got, e)
			}
		}
		if got, e := l.Adjacent(i, i); got || e != api.ErrNone {
			t.Errorf("Adjacent(%d): %v, %v", i, got, e)
		}
		if got, e := l.Face(i); len(got) != 0 || e != api.ErrNone {
			t.Errorf("Face(%d): %v, %v", i, got, e)
		}
	}
	if l.Asked() != 0 {
		t.Error(l.Asked())
	}
}

func TestExamples(t *testing.T) {
	l := looked(t, "(([))]")
	if n, e := l.Degree(0); n != 2 || e != api.OK {
		t.Error(n, e)
	}
	if u, e := l.Nth(2, 0); u != 0 || e != api.OK {
		t.Error(u, e)
	}
	if joined, e := l.Adjacent(0, 2); !joined || e != api.OK {
		t.Error(joined, e)
	}
}

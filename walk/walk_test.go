package walk_test

import (
	"math"
	"math/rand/v2"
	"slices"
	"testing"

	"parquetry/api"
	"parquetry/dart"
	"parquetry/mixed"
	"parquetry/samples"
	"parquetry/walk"
)

// turned answers the map whose vertices' darts are these, counter-clockwise.
func turned(t *testing.T, lone int, vertices ...[]int) *dart.Map {
	t.Helper()
	root := 0
	if len(vertices) == 0 {
		root = -1
	}
	return samples.Turned(t, root, lone, vertices...)
}

// walked answers the walk of m from root, that there is.
func walked(t *testing.T, m *dart.Map, root int) []walk.Step {
	t.Helper()
	l, e := walk.Of(m, root)
	if e != api.OK {
		t.Fatalf("Of %v from %d: %v", m.List(), root, e)
	}
	return l
}

// steps answers those that look at darts in turn, with the kinds of a text.
func steps(t *testing.T, text string, darts ...int) []walk.Step {
	t.Helper()
	w, n, e := mixed.Parse(text)
	if e != api.OK || n != len(darts) {
		t.Fatal(text, darts, e)
	}
	var l []walk.Step
	for i, d := range darts {
		l = append(l, walk.Step{Dart: d, Kind: w.At(i)})
	}
	return l
}

// model answers the walk of m from root, told from the steps so far alone.
func model(m *dart.Map, root int) []walk.Step {
	var l []walk.Step
	for at := root; !looked(l, at); {
		kind := modelKind(m, l, at, root)
		l = append(l, walk.Step{Dart: at, Kind: kind})
		if kind == mixed.Open || kind == mixed.Close {
			at = m.Mate(at)
		}
		at = m.Sigma(at)
	}
	return l
}

// modelKind is the kind of a dart behind the steps l.
func modelKind(m *dart.Map, l []walk.Step, d, root int) int {
	for _, s := range l {
		if s.Dart != m.Mate(d) {
			continue
		}
		if s.Kind == mixed.Open {
			return mixed.Close
		}
		return mixed.Right
	}
	for _, at := range m.Around(m.Mate(d)) {
		for _, s := range l {
			if s.Kind == mixed.Open && m.Mate(s.Dart) == at {
				return mixed.Left
			}
		}
		if at == root {
			return mixed.Left
		}
	}
	return mixed.Open
}

// looked tells whether a step of l looks at d.
func looked(l []walk.Step, d int) bool {
	return slices.ContainsFunc(l, func(s walk.Step) bool { return s.Dart == d })
}

// part answers the darts that root comes to, sorted.
func part(m *dart.Map, root int) []int {
	in := []int{root}
	for i := 0; i < len(in); i++ {
		for _, next := range []int{m.Sigma(in[i]), m.Mate(in[i])} {
			if !slices.Contains(in, next) {
				in = append(in, next)
			}
		}
	}
	slices.Sort(in)
	return in
}

// verticesOf answers the vertices of some darts, sorted, each once.
func verticesOf(m *dart.Map, darts []int) []int {
	var l []int
	for _, d := range darts {
		l = append(l, m.Vertex(d))
	}
	slices.Sort(l)
	return slices.Compact(l)
}

// check holds all that is told of the walk of m from root against the model,
// and against what a walk is.
func check(t *testing.T, m *dart.Map, root int) {
	t.Helper()
	l := walked(t, m, root)
	if !slices.Equal(l, model(m, root)) {
		t.Fatalf("Of %v from %d: %v, want %v", m.List(), root, l, model(m, root))
	}
	var darts []int
	for _, s := range l {
		darts = append(darts, s.Dart)
	}
	slices.Sort(darts)
	if !slices.Equal(darts, part(m, root)) {
		t.Fatalf("Of %v from %d looks at %v", m.List(), root, darts)
	}
	if !walk.Right(m, root, l) {
		t.Fatalf("of %v from %d: Right is false", m.List(), root)
	}
	checkTree(t, m, l, verticesOf(m, darts))
	if w := walk.Word(l); w.Len() != len(l) {
		t.Fatalf("of %v from %d: Word %s", m.List(), root, w.Text())
	}
}

// checkTree holds Tree and Order of the walk l of m against the vertices of
// its part.
func checkTree(t *testing.T, m *dart.Map, l []walk.Step, vertices []int) {
	t.Helper()
	tree, order := walk.Tree(l), walk.Order(m, l)
	if len(tree) != len(vertices)-1 || len(order) != len(vertices) || order[0] != m.Vertex(l[0].Dart) {
		t.Fatalf("of %v: Tree %v, Order %v", m.List(), tree, order)
	}
	for i, d := range tree {
		// Each edge joins a vertex that was met to one that wasn't: together
		// they are a tree.
		from, to := m.Vertex(d), m.Vertex(m.Mate(d))
		if !slices.Contains(order[:i+1], from) || slices.Contains(order[:i+1], to) || order[i+1] != to {
			t.Fatalf("of %v: Tree %v, Order %v", m.List(), tree, order)
		}
	}
	slices.Sort(order)
	if !slices.Equal(order, vertices) {
		t.Fatalf("of %v: Order, sorted, %v, want %v", m.List(), order, vertices)
	}
}

func TestP9_AllSmall(t *testing.T) {
	for n := 2; n <= 6; n += 2 {
		for _, sigma := range samples.Perms(n) {
			m := samples.Map(t, sigma, n-1, n%3)
			for root := range n {
				check(t, m, root)
			}
		}
	}
}

func TestP9_Random(t *testing.T) {
	r := rand.New(rand.NewPCG(41, 42))
	for _, n := range []int{8, 10, 16, 50} {
		for range 10 {
			whole, split := r.Perm(n), make([]int, n)
			for d := range split {
				split[d] = d
			}
			for range n / 2 {
				i, j := r.IntN(n), r.IntN(n)
				split[i], split[j] = split[j], split[i]
			}
			for _, sigma := range [][]int{whole, split} {
				m := samples.Map(t, sigma, r.IntN(n), r.IntN(3))
				check(t, m, r.IntN(n))
				check(t, m, m.Root())
			}
		}
	}
}

// known is a map whose walk is known.
type known struct {
	name  string
	m     *dart.Map
	root  int
	want  []walk.Step
	tree  []int
	order []int
}

// knowns answers maps whose walks were gone through by hand.
func knowns(t *testing.T) []known {
	triangle := turned(t, 0, []int{0, 5}, []int{1, 2}, []int{3, 4})
	square := turned(t, 1, []int{0, 7, 8}, []int{1, 2}, []int{3, 4, 9}, []int{5, 6})
	return []known{
		{"a loop", turned(t, 0, []int{0, 1}), 0, steps(t, "[]", 0, 1), nil, []int{0}},
		{"a loop, turned", turned(t, 0, []int{0, 1}), 1, steps(t, "[]", 1, 0), nil, []int{0}},
		{"an edge", turned(t, 0, []int{0}, []int{1}), 0, steps(t, "()", 0, 1), []int{0}, []int{0, 1}},
		{"an edge, turned", turned(t, 2, []int{0}, []int{1}), 1, steps(t, "()", 1, 0), []int{1}, []int{1, 0}},
		{"two loops crossed", turned(t, 0, []int{0, 2, 1, 3}), 0, steps(t, "[[]]", 0, 2, 1, 3), nil, []int{0}},
		{"two edges side by side", turned(t, 0, []int{0, 2}, []int{1, 3}), 0, steps(t, "([)]", 0, 3, 1, 2), []int{0}, []int{0, 1}},
		{"a triangle", triangle, 0, steps(t, "(([))]", 0, 2, 4, 3, 1, 5), []int{0, 2}, []int{0, 1, 2}},
		{"a triangle, from outside", triangle, 5, steps(t, "(([))]", 5, 3, 1, 2, 4, 0), []int{5, 3}, []int{0, 2, 1}},
		{"a square with a chord", square, 7, steps(t, "(([([)))]]", 7, 5, 9, 3, 1, 2, 4, 6, 8, 0), []int{7, 5, 3}, []int{0, 3, 2, 1}},
		{"one part of two", turned(t, 1, []int{0}, []int{1}, []int{2, 4, 3}, []int{5}), 4, steps(t, "()[]", 4, 5, 3, 2), []int{4}, []int{2, 3}},
	}
}

func TestP9_Known(t *testing.T) {
	for _, x := range knowns(t) {
		l := walked(t, x.m, x.root)
		if !slices.Equal(l, x.want) {
			t.Errorf("%s: Of %v, want %v", x.name, l, x.want)
		}
		if tree, order := walk.Tree(l), walk.Order(x.m, l); !slices.Equal(tree, x.tree) || !slices.Equal(order, x.order) {
			t.Errorf("%s: Tree %v, want %v; Order %v, want %v", x.name, tree, x.tree, order, x.order)
		}
		check(t, x.m, x.root)
	}
}

// farDarts are darts that a map of n hasn't.
func farDarts(n int) []int { return []int{math.MinInt, -2, -1, n, n + 1, math.MaxInt} }

func TestP9_1Errors(t *testing.T) {
	maps := []*dart.Map{turned(t, 0), turned(t, 3), turned(t, 0, []int{0}, []int{1}), turned(t, 1, []int{0, 5}, []int{1, 2}, []int{3, 4})}
	for _, m := range maps {
		for _, root := range farDarts(m.Darts()) {
			if l, e := walk.Of(m, root); len(l) != 0 || e != api.ErrRoot {
				t.Errorf("Of %v from %d: %v, %v", m.List(), root, l, e)
			}
		}
	}
	for _, root := range append(farDarts(0), 0) {
		if l, e := walk.Of(nil, root); len(l) != 0 || e != api.ErrNone {
			t.Errorf("Of nil from %d: %v, %v", root, l, e)
		}
	}
}

// TestP9_1Large walks what is as large as can be: a path, whose walk is as
// deep as can be, a star, a fan of loops, and random turns.
func TestP9_1Large(t *testing.T) {
	n := 2 * api.MaxEdges
	star, loops := make([]int, n), make([]int, n)
	for d := range n {
		star[d] = d
		if d%2 == 0 {
			star[d] = (d + 2) % n
		}
		loops[d] = (d + 1) % n
	}
	r := rand.New(rand.NewPCG(43, 44))
	for i, sigma := range [][]int{samples.Path(n), star, loops, r.Perm(n)} {
		m := samples.Map(t, sigma, n/2, i)
		l := walked(t, m, m.Root())
		met := make([]int, n)
		for _, s := range l {
			met[s.Dart]++
		}
		if i < 3 && (slices.Min(met) != 1 || len(walk.Tree(l)) != m.Vertices()-m.Lone()-1) || slices.Max(met) != 1 || !walk.Right(m, m.Root(), l) {
			t.Fatal(i, len(l), len(walk.Tree(l)))
		}
		order := walk.Order(m, l)
		slices.Sort(order)
		if len(slices.Compact(order)) != len(walk.Tree(l))+1 {
			t.Fatal(i, len(order))
		}
		if _, e := mixed.Index(walk.Word(l)); e != api.OK {
			t.Fatal(i, e)
		}
	}
}

func TestP9_1NewMemory(t *testing.T) {
	m := turned(t, 0, []int{0, 5}, []int{1, 2}, []int{3, 4})
	want := steps(t, "(([))]", 0, 2, 4, 3, 1, 5)
	for range 2 {
		l := walked(t, m, 0)
		if !slices.Equal(l, want) {
			t.Fatal(l)
		}
		clear(walk.Tree(l))
		clear(walk.Order(m, l))
		walk.Word(l).Add(mixed.Left)
		walk.Right(m, 0, l)
		if !slices.Equal(l, want) {
			t.Fatal(l)
		}
		clear(l)
	}
}

func TestP9_2Word(t *testing.T) {
	var l []walk.Step
	text := ""
	for i, kind := range []int{0, 1, 2, 3, -1, 3, 4, 2, math.MaxInt, 1, math.MinInt, 0, 5} {
		l = append(l, walk.Step{Dart: -i, Kind: kind})
		if kind >= 0 && kind <= 3 {
			text += "()[]"[kind : kind+1]
		}
		if w := walk.Word(l); w.Text() != text {
			t.Fatalf("Word of %v: %s, want %s", l, w.Text(), text)
		}
	}
	for _, l := range [][]walk.Step{nil, {}, {{Dart: 1, Kind: 4}}} {
		if w := walk.Word(l); w == nil || w.Len() != 0 {
			t.Fatalf("Word of %v: %v", l, w)
		}
	}
}

func TestP9_2Tree(t *testing.T) {
	l := []walk.Step{{7, mixed.Open}, {-3, mixed.Open}, {1, mixed.Close}, {2, mixed.Left}, {3, mixed.Right}, {7, mixed.Open}, {4, 4}, {5, -1}, {math.MaxInt, 0}}
	if tree := walk.Tree(l); !slices.Equal(tree, []int{7, -3, 7, math.MaxInt}) {
		t.Fatal(tree)
	}
	if tree := walk.Tree(nil); len(tree) != 0 {
		t.Fatal(tree)
	}
}

func TestP9_2Order(t *testing.T) {
	m := turned(t, 2, []int{0, 5}, []int{1, 2}, []int{3, 4})
	for _, x := range []struct {
		l    []walk.Step
		want []int
	}{
		{nil, nil},
		{[]walk.Step{{3, mixed.Right}}, []int{2}},
		{[]walk.Step{{3, 17}, {0, mixed.Left}, {1, mixed.Close}}, []int{2}},
		{[]walk.Step{{3, mixed.Open}}, []int{2, 1}},
		{[]walk.Step{{6, mixed.Open}, {2, mixed.Open}}, []int{2}},
		{[]walk.Step{{-1, mixed.Close}, {5, mixed.Open}, {math.MaxInt, mixed.Open}, {math.MinInt, mixed.Open}, {0, mixed.Open}}, []int{2, 1}},
		{[]walk.Step{{0, mixed.Left}, {6, mixed.Open}, {-1, mixed.Open}}, []int{0}},
	} {
		if order := walk.Order(m, x.l); !slices.Equal(order, x.want) {
			t.Errorf("Order of %v: %v, want %v", x.l, order, x.want)
		}
		if order := walk.Order(nil, x.l); len(order) != 0 {
			t.Errorf("Order of nil and %v: %v", x.l, order)
		}
	}
}

func TestP9_2Right(t *testing.T) {
	for _, x := range knowns(t) {
		for root := -1; root <= x.m.Darts(); root++ {
			if walk.Right(x.m, root, x.want) != (root == x.root) {
				t.Errorf("%s: Right from %d", x.name, root)
			}
		}
		for i := range x.want {
			for _, wrong := range wrongs(x.want, i) {
				if walk.Right(x.m, x.root, wrong) {
					t.Errorf("%s: Right of %v", x.name, wrong)
				}
			}
		}
		if walk.Right(x.m, x.root, nil) || walk.Right(nil, x.root, x.want) || walk.Right(nil, x.root, nil) {
			t.Errorf("%s: Right of nothing", x.name)
		}
	}
	for _, m := range []*dart.Map{turned(t, 0), turned(t, 1), turned(t, 0, []int{0, 1})} {
		for _, root := range farDarts(m.Darts()) {
			if walk.Right(m, root, nil) {
				t.Errorf("of %v: Right of nothing from %d", m.List(), root)
			}
		}
	}
}

// wrongs answers lists that are not l by the i-th step.
func wrongs(l []walk.Step, i int) [][]walk.Step {
	kind, far, twice, turn := slices.Clone(l), slices.Clone(l), slices.Clone(l), slices.Clone(l)
	kind[i].Kind = (kind[i].Kind + 2) % 4
	far[i].Dart += len(l)
	twice = slices.Insert(twice, i, l[i])
	turn[i], turn[(i+1)%len(l)] = turn[(i+1)%len(l)], turn[i]
	return [][]walk.Step{kind, far, twice, turn, l[:i], slices.Delete(slices.Clone(l), i, i+1)}
}

func TestStepValues(t *testing.T) {
	a := walk.Step{Dart: 3, Kind: mixed.Left}
	b := a
	b.Dart = 4
	if a != (walk.Step{Dart: 3, Kind: mixed.Left}) || a == b {
		t.Fatal(a, b)
	}
}

func TestExamples(t *testing.T) {
	loop := walk.Word(walked(t, turned(t, 0, []int{0, 1}), 0))
	edge := walk.Word(walked(t, turned(t, 0, []int{0}, []int{1}), 0))
	if loop.Text() != "[]" || edge.Text() != "()" {
		t.Fatal(loop.Text(), edge.Text())
	}
}

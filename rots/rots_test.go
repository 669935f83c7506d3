package rots_test

import (
	"bytes"
	"math/rand/v2"
	"regexp"
	"slices"
	"strconv"
	"strings"
	"testing"

	"parquetry/api"
	"parquetry/dart"
	"parquetry/rots"
	"parquetry/samples"
)

// maps answers maps of all turns of up to four darts, and some of more.
func maps(t *testing.T) []*dart.Map {
	t.Helper()
	var all []*dart.Map
	for _, lone := range []int{0, 1, 12, api.MaxLone} {
		all = append(all, samples.Map(t, nil, -1, lone))
	}
	r := rand.New(rand.NewPCG(17, 18))
	sigmas := append(samples.Perms(2), samples.Perms(4)...)
	for _, n := range []int{6, 8, 12, 40, 300} {
		for range 10 {
			sigmas = append(sigmas, r.Perm(n))
		}
	}
	for i, sigma := range sigmas {
		all = append(all, samples.Map(t, sigma, i%len(sigma), i%4))
	}
	return all
}

// line is a line of these numbers.
func line(numbers []int) string {
	words := make([]string, len(numbers))
	for i, x := range numbers {
		words[i] = strconv.Itoa(x)
	}
	return strings.Join(words, " ") + "\n"
}

// lists are the vertices of m by their least darts, each from its least dart
// on, by Sigma's list alone.
func lists(m *dart.Map) [][]int {
	sigma := m.List()
	met := make([]bool, len(sigma))
	var all [][]int
	for d := range sigma {
		var darts []int
		for at := d; !met[at]; at = sigma[at] {
			met[at] = true
			darts = append(darts, at)
		}
		if len(darts) > 0 {
			all = append(all, darts)
		}
	}
	return all
}

// text is the text of m whose vertices these are.
func text(m *dart.Map, vertices [][]int) string {
	s := line([]int{len(m.List()) / 2, m.Root(), m.Lone()})
	for _, darts := range vertices {
		s += line(darts)
	}
	return s
}

// checkMap holds what Parse tells of s against m.
func checkMap(t *testing.T, s string, m *dart.Map) {
	t.Helper()
	got, lines, e := rots.Parse([]byte(s))
	if e != api.OK || !dart.Same(got, m) || got == nil || lines != strings.Count(s, "\n") {
		t.Fatalf("Parse of %.200q: %d lines, %v", s, lines, e)
	}
}

// checkFault holds what Parse tells of s, that is wrong, against these.
func checkFault(t *testing.T, s string, line int, want api.Errno) {
	t.Helper()
	m, got, e := rots.Parse([]byte(s))
	if m != nil || got != line || e != want {
		t.Errorf("Parse of %.200q: line %d, %v, want line %d, %v", s, got, e, line, want)
	}
}

func TestP7_2Print(t *testing.T) {
	for _, m := range maps(t) {
		want := text(m, lists(m))
		for range 2 {
			got, e := rots.Print(m)
			if e != api.OK || string(got) != want {
				t.Fatalf("Print: %q, %v, want %q", got, e, want)
			}
			// An answer is new memory.
			clear(got)
		}
		checkMap(t, want, m)
	}
	if p, e := rots.Print(nil); len(p) != 0 || e != api.ErrNone {
		t.Fatalf("Print of nil: %q, %v", p, e)
	}
}

func TestP7_1AnyOrder(t *testing.T) {
	r := rand.New(rand.NewPCG(19, 20))
	for _, m := range maps(t) {
		for range 3 {
			vertices := lists(m)
			r.Shuffle(len(vertices), func(i, j int) { vertices[i], vertices[j] = vertices[j], vertices[i] })
			for i, darts := range vertices {
				from := r.IntN(len(darts))
				vertices[i] = append(slices.Clone(darts[from:]), darts[:from]...)
			}
			checkMap(t, text(m, vertices), m)
		}
	}
}

func TestP7_1Right(t *testing.T) {
	edge, loop := samples.Map(t, []int{0, 1}, 0, 0), samples.Map(t, []int{1, 0}, 1, 0)
	checkMap(t, "1 0 0\n0\n1\n", edge)
	checkMap(t, "1 0 0\n1\n0\n", edge)
	checkMap(t, "1 1 0\n0 1\n", loop)
	checkMap(t, "1 1 0\n1 0\n", loop)
	checkMap(t, "0 -1 0\n", samples.Map(t, nil, -1, 0))
	checkMap(t, "0 -1 65536\n", samples.Map(t, nil, -1, api.MaxLone))
	checkMap(t, "1 1 65536\n0 1\n", samples.Map(t, []int{1, 0}, 1, api.MaxLone))
	checkMap(t, "2 3 0\n0 1 2 3\n", samples.Map(t, []int{1, 2, 3, 0}, 3, 0))
	checkMap(t, "2 3 0\n3 2 1 0\n", samples.Map(t, []int{3, 0, 1, 2}, 3, 0))
}

func TestP7_2Text(t *testing.T) {
	for _, c := range []struct {
		text string
		line int
	}{
		// Without a 0a, and behind the last one.
		{"", 1}, {"1 0 0", 1}, {"x", 1}, {" ", 1},
		{"1 0 0\n0\n1", 3}, {"1 0 0\n0\n1\n ", 4}, {"0 -1 0\nx", 2}, {"0 -1 0\n\r", 2}, {"1 0 0\n0 1\n0", 3},
		{"1 0 0\n0 x\n1", 2}, {"1 0\n0", 1},
		// The first line hasn't three numbers.
		{"\n", 1}, {"\n1 0 0\n", 1}, {"1\n0 1\n", 1}, {"1 0\n0 1\n", 1}, {"1 0 0 0\n0 1\n", 1}, {"0 1\n1 0 0\n", 1},
		// A number but the first line's second one is -1.
		{"-1 0 0\n", 1}, {"-1 -1 0\n", 1}, {"0 -1 -1\n", 1}, {"1 0 0\n-1\n1\n", 2}, {"1 0 0\n0\n1 -1\n", 3}, {"1 0 0\n0 1\n-1 -1 -1\n", 3},
		// It isn't numbers, one blank between any two.
		{" 1 0 0\n0 1\n", 1}, {"1 0 0 \n0 1\n", 1}, {"1  0 0\n0 1\n", 1}, {"1\t0 0\n0 1\n", 1}, {"1,0,0\n0 1\n", 1},
		{"1 0 0\n 0 1\n", 2}, {"1 0 0\n0 1 \n", 2}, {"1 0 0\n0  1\n", 2}, {"1 0 0\n0\t1\n", 2}, {"1 0 0\r\n0 1\r\n", 1},
		{"1 0 0\n0 1\r\n", 2}, {"1 0 0\n \n0 1\n", 2}, {"1 0 0\x00\n0 1\n", 1},
		// A line without numbers.
		{"0 -1 0\n\n", 2}, {"1 0 0\n0 1\n\n", 3}, {"1 0 0\n\n0 1\n", 2}, {"0 -1 1\n\n\n", 2},
		// It isn't digits, or there are noughts ahead.
		{"1 0 a\n0 1\n", 1}, {"1 0 0\n0 1a\n", 2}, {"1 0 0\n0 +1\n", 2}, {"1 0 0\n0 1.\n", 2}, {"1 0 0\n0 ١\n", 2},
		{"1 00 0\n0 1\n", 1}, {"01 0 0\n0 1\n", 1}, {"1 0 0\n0 01\n", 2}, {"1 0 0\n00 1\n", 2}, {"1 0 0\n0 1/\n", 2}, {"1 0 0\n0 1:\n", 2},
		{"0 -0 0\n", 1}, {"0 -2 0\n", 1}, {"0 -01 0\n", 1}, {"0 -10 0\n", 1}, {"0 - 0\n", 1}, {"0 --1 0\n", 1}, {"0 -1- 0\n", 1},
		// More than nine digits.
		{"1000000000 0 0\n", 1}, {"0 1000000000 0\n", 1}, {"0 -1 1000000000\n", 1}, {"1 0 0\n0 1000000000\n", 2},
		{"1 0 0\n0 18446744073709551617\n", 2}, {"1 0 0\n0 0000000001\n", 2},
		// The first such line, though others are wrong behind it, and errors are that come later.
		{"1 0 0\n0 1\nx\ny\n", 3}, {"9 99 99999999\n0 0\n-1\n", 3}, {"2 9 9\n7 7\n\nx", 3},
	} {
		checkFault(t, c.text, c.line, api.ErrText)
	}
}

func TestP7_2Perm(t *testing.T) {
	for _, s := range []string{
		"1 0 0\n", "1 0 0\n0\n", "1 0 0\n1\n", "1 0 0\n0 0\n", "1 0 0\n1 1\n", "1 0 0\n0\n0\n", "1 0 0\n0 2\n", "1 0 0\n2\n1\n",
		"1 0 0\n0 1 0\n", "1 0 0\n0 1\n1\n", "1 0 0\n0 1\n2\n", "1 0 0\n0 1 2 3\n", "1 0 0\n1 2\n",
		"0 -1 0\n0\n", "0 -1 0\n0 1\n", "0 0 0\n0\n", "2 0 0\n0 1\n", "2 0 0\n0 1 2\n", "2 0 0\n0 1 2 4\n", "2 0 0\n0 1 2\n2\n",
		"999999999 0 0\n", "999999999 0 0\n0 1\n", "1 0 0\n0 999999999\n", "0 999999999 0\n0\n",
		// The errors of layer 6 come behind.
		"1 2 0\n0\n", "1 -1 0\n0 0\n", "1 0 65537\n0 2\n", "0 5 999999999\n1\n", "70000 0 0\n0 1\n",
	} {
		checkFault(t, s, 0, api.ErrPerm)
	}
}

func TestP7_2OfDart(t *testing.T) {
	for s, want := range map[string]api.Errno{
		"1 2 0\n0 1\n":             api.ErrRoot,
		"1 -1 0\n0 1\n":            api.ErrRoot,
		"1 999999999 0\n0\n1\n":    api.ErrRoot,
		"0 0 0\n":                  api.ErrRoot,
		"0 0 65537\n":              api.ErrRoot,
		"0 -1 65537\n":             api.ErrLarge,
		"0 -1 999999999\n":         api.ErrLarge,
		"1 1 65537\n0\n1\n":        api.ErrLarge,
		"2 3 999999999\n0 1 2 3\n": api.ErrLarge,
	} {
		checkFault(t, s, 0, want)
	}
}

// loops is the text of so many edges at one vertex, with this root.
func loops(edges, root int) string {
	var b strings.Builder
	b.WriteString(line([]int{edges, root, 0}))
	for d := range 2 * edges {
		if d > 0 {
			b.WriteByte(' ')
		}
		b.WriteString(strconv.Itoa(d))
	}
	b.WriteByte('\n')
	return b.String()
}

func TestP7_2Large(t *testing.T) {
	const n = 2 * api.MaxEdges
	m := samples.Map(t, rand.New(rand.NewPCG(21, 22)).Perm(n), n-1, api.MaxLone)
	p, e := rots.Print(m)
	if e != api.OK || len(p) > api.MaxText {
		t.Fatal(e, len(p))
	}
	checkMap(t, string(p), m)
	alone := make([]int, n)
	for d := range alone {
		alone[d] = d
	}
	m = samples.Map(t, alone, 0, 0)
	p, e = rots.Print(m)
	if e != api.OK || rots.Lines(p) != n+1 {
		t.Fatal(e, rots.Lines(p))
	}
	checkMap(t, string(p), m)
	checkFault(t, loops(api.MaxEdges+1, 0), 0, api.ErrLarge)
	checkFault(t, loops(api.MaxEdges+1, n+2), 0, api.ErrRoot)
	checkFault(t, loops(api.MaxEdges+1, 0)+"0\n", 0, api.ErrPerm)
}

func TestP7_2MaxText(t *testing.T) {
	// With no more than the bound, what is told is what else there is.
	for _, c := range []struct {
		text string
		line int
		want api.Errno
	}{
		{strings.Repeat("\n", api.MaxText), 1, api.ErrText},
		{"0 -1 10\n" + strings.Repeat("0\n", (api.MaxText-8)/2), 0, api.ErrPerm},
		{"0 -1 0\n" + strings.Repeat("x", api.MaxText-7), 2, api.ErrText},
		{strings.Repeat("\n", api.MaxText+1), 0, api.ErrLarge},
		{strings.Repeat("x", api.MaxText+1), 0, api.ErrLarge},
		{"0 -1 0\n" + strings.Repeat("x", api.MaxText-6), 0, api.ErrLarge},
		{"0 -1 10\n" + strings.Repeat("0\n", (api.MaxText-6)/2), 0, api.ErrLarge},
	} {
		checkFault(t, c.text, c.line, c.want)
	}
}

func TestP7_2Lines(t *testing.T) {
	for s, want := range map[string]int{
		"": 0, "x": 0, "\n": 1, "\n\n": 2, "x\ny": 1, "1 0 0\n0\n1\n": 3, "\r\x0b\u0085\u2028": 0, "a\nb\nc\n": 3,
	} {
		if got := rots.Lines([]byte(s)); got != want {
			t.Errorf("Lines of %q: %d, want %d", s, got, want)
		}
	}
	if got := rots.Lines(nil); got != 0 {
		t.Error(got)
	}
	if got := rots.Lines(bytes.Repeat([]byte("\n"), 2*api.MaxText)); got != 2*api.MaxText {
		t.Error(got)
	}
}

func TestP7_2Memory(t *testing.T) {
	const s = "2 3 1\n0 2\n1\n3\n"
	p := append([]byte(s), "spare"...)[:len(s)]
	m, lines, e := rots.Parse(p)
	if e != api.OK || lines != 4 || string(p[:len(s)+5]) != s+"spare" {
		t.Fatal(e, lines, p[:len(s)+5])
	}
	for i := range p {
		p[i] = 'x'
	}
	if got, e := rots.Print(m); e != api.OK || string(got) != s {
		t.Fatalf("%q, %v", got, e)
	}
	if m, lines, e := rots.Parse(nil); m != nil || lines != 1 || e != api.ErrText {
		t.Fatal(lines, e)
	}
}

// The two kinds of lines, and what -1 may be.
var (
	firstLine = regexp.MustCompile(`^(0|[1-9][0-9]{0,8}) (-1|0|[1-9][0-9]{0,8}) (0|[1-9][0-9]{0,8})$`)
	otherLine = regexp.MustCompile(`^(0|[1-9][0-9]{0,8})( (0|[1-9][0-9]{0,8}))*$`)
)

// faultOf is the line of ErrText in s, or 0.
func faultOf(s string) int {
	lines := strings.Split(s, "\n")
	for i, l := range lines {
		if i == len(lines)-1 {
			if i == 0 || l != "" {
				return i + 1
			}
			break
		}
		if i == 0 && !firstLine.MatchString(l) || i > 0 && !otherLine.MatchString(l) {
			return i + 1
		}
	}
	return 0
}

// checkAny holds what Parse tells of any text against what a text is.
func checkAny(t *testing.T, s string) {
	t.Helper()
	m, lines, e := rots.Parse([]byte(s))
	switch fault := faultOf(s); {
	case fault != 0:
		if m != nil || lines != fault || e != api.ErrText {
			t.Fatalf("Parse of %q: line %d, %v, want line %d, %v", s, lines, e, fault, api.ErrText)
		}
	case e != api.OK:
		if m != nil || lines != 0 || e != api.ErrPerm && e != api.ErrRoot && e != api.ErrLarge {
			t.Fatalf("Parse of %q: line %d, %v", s, lines, e)
		}
	default:
		// Each line is the map's, of a vertex from the dart on that it begins with.
		if m == nil || lines != rots.Lines([]byte(s)) || lines != m.Vertices()-m.Lone()+1 {
			t.Fatalf("Parse of %q: %d lines", s, lines)
		}
		for i, l := range strings.Split(strings.TrimSuffix(s, "\n"), "\n") {
			if i == 0 && l+"\n" != line([]int{m.Edges(), m.Root(), m.Lone()}) {
				t.Fatalf("Parse of %q: edges %d, root %d, lone %d", s, m.Edges(), m.Root(), m.Lone())
			}
			if first, e := strconv.Atoi(strings.Fields(l)[0]); i > 0 && (e != nil || l+"\n" != line(m.Around(first))) {
				t.Fatalf("Parse of %q: around %d %v", s, first, m.Around(first))
			}
		}
	}
}

func TestP7_2Any(t *testing.T) {
	r := rand.New(rand.NewPCG(23, 24))
	signs := []string{"0", "1", "2", "3", "-1", "-", " ", " ", "\n", "\n", "x", "00", "123456789"}
	starts := []string{"", "1 0 0\n", "2 1 0\n", "0 -1 2\n", "2 0 0\n0 1\n"}
	for range 50000 {
		s := starts[r.IntN(len(starts))]
		for range r.IntN(10) {
			s += signs[r.IntN(len(signs))]
		}
		checkAny(t, s)
	}
	// Right texts with one sign put in, left out, or put for another one.
	for _, m := range maps(t)[:60] {
		s := text(m, lists(m))
		if len(s) > 300 {
			continue
		}
		checkAny(t, s)
		for range 300 {
			at := r.IntN(len(s))
			sign := signs[r.IntN(len(signs))]
			checkAny(t, s[:at]+sign+s[at:])
			checkAny(t, s[:at]+s[at+1:])
			checkAny(t, s[:at]+sign+s[at+1:])
		}
	}
}

func TestExamples(t *testing.T) {
	m, lines, e := rots.Parse([]byte("1 0 0\n0\n1\n"))
	if e != api.OK || lines != 3 || m.Edges() != 1 || m.Vertices() != 2 {
		t.Fatal(lines, e)
	}
}

package desk_test

import (
	"slices"
	"strings"
	"testing"

	"parquetry/api"
	"parquetry/dart"
	"parquetry/desk"
	"parquetry/grow"
	"parquetry/samples"
)

// said is a line, and what is told of it.
type said struct{ line, want string }

// checkSaid asks a desk for one line behind the other.
func checkSaid(t *testing.T, d *desk.Desk, all ...said) {
	t.Helper()
	for _, x := range all {
		if got := d.Do(x.line); got != x.want {
			t.Errorf("%q: %q, want %q", samples.Short(x.line), samples.Short(got), samples.Short(x.want))
		}
	}
}

// TestP25_2Known goes through each line there is, worked out by hand.
func TestP25_2Known(t *testing.T) {
	for _, all := range [][]said{
		{
			// One edge.
			{"print", "print 1 0 0;0;1;"}, {"counts", "counts 2 1 1 1 0"}, {"is", "is planar connected simple"},
			{"word", "word ()"}, {"code", "error 8"}, {"order", "error 8"}, {"names", "names 0 1"}, {"shape", "shape 2"},
			{"around 0", "around 0"}, {"around 1", "around 1"}, {"around 2", "error 1"}, {"around -1", "error 1"},
			{"face 0", "face 0 1"}, {"face 1", "face 1 0"}, {"face 2", "error 1"}, {"face -1", "error 1"},
			{"degree 0", "degree 1"}, {"degree 1", "degree 1"}, {"degree 2", "error 1"}, {"degree -1", "error 1"},
		},
		{
			// A path, a triangle, and a vertex in it.
			{"leaf 0", "ok"}, {"word", "word ()()"}, {"names", "names 0 1 2 3"}, {"chord 3 1", "ok"},
			{"print", "print 3 0 0;0 2;1 5;3 4;"}, {"counts", "counts 3 3 2 1 0"}, {"is", "is planar connected simple triangulation"},
			{"word", "word (([))]"}, {"code", "code 1010100"}, {"order", "order 0 1 2"}, {"names", "names 0 1 5 4 3 2"}, {"shape", "shape 6"},
			{"face 0", "face 0 5 3"}, {"face 4", "face 4 1 2"}, {"around 5", "around 5 1"}, {"degree 2", "degree 2"},
			{"star 4", "ok"}, {"counts", "counts 4 6 4 1 0"}, {"is", "is planar connected simple triangulation"}, {"shape", "shape 12"},
			{"degree 3", "degree 3"}, {"order", "order 0 1 3 2"},
			{"flip 0", "ok"}, {"is", "is planar connected"}, {"counts", "counts 4 6 4 1 0"}, {"degree 0", "degree 4"},
			{"print", "print 6 0 0;0 3 6 4;1 9 7 11;2 10;5 8;"},
			{"seed", "ok"}, {"print", "print 1 0 0;0;1;"},
		},
		{
			// What else there is to turn it.
			{"split 0", "ok"}, {"print", "print 2 0 0;0;1 2;3;"}, {"root 3", "ok"}, {"print", "print 2 3 0;0;1 2;3;"},
			{"canon", "ok"}, {"print", "print 2 0 0;0;1 2;3;"}, {"dual", "ok"}, {"print", "print 2 0 0;0 2 3 1;"},
			{"is", "is planar connected"}, {"word", "word [[]]"}, {"mirror", "ok"}, {"print", "print 2 0 0;0 1 3 2;"},
			{"shrink 0", "error 8"}, {"cut 3", "ok"}, {"print", "print 1 0 0;0 1;"}, {"word", "word []"},
			{"dual", "ok"}, {"shrink 1", "ok"}, {"print", "print 0 -1 1;"}, {"counts", "counts 1 0 0 1 0"},
			{"word", "word"}, {"names", "names"}, {"shape", "shape 0"}, {"is", "is planar connected simple"},
			{"around 0", "error 1"}, {"face 0", "error 1"}, {"degree 0", "degree 0"}, {"degree 1", "error 1"},
			{"root 0", "error 5"}, {"leaf 0", "error 1"}, {"chord 0 0", "error 1"}, {"split 0", "error 1"}, {"star 0", "error 1"},
			{"flip 0", "error 1"}, {"cut 0", "error 1"}, {"shrink 0", "error 1"}, {"dual", "ok"}, {"mirror", "ok"}, {"canon", "ok"},
			{"file 0", "file 5051000100" + sumOf(t, 0x50, 0x51, 0, 1, 0)},
		},
		{
			// Nothing at all.
			{"load 0 -1 0;", "ok"}, {"print", "print 0 -1 0;"}, {"counts", "counts 0 0 0 0 0"}, {"is", "is planar simple"},
			{"word", "error 8"}, {"code", "error 8"}, {"order", "error 8"}, {"names", "names"}, {"shape", "shape 0"}, {"degree 0", "error 1"},
			{"file 0", "file 5051000000" + sumOf(t, 0x50, 0x51, 0, 0, 0)},
		},
		{
			// Two parts, and a lone vertex.
			{"load 2 3 1;2 3;1;0;", "ok"}, {"print", "print 2 3 1;0;1;2 3;"}, {"counts", "counts 4 2 3 3 0"}, {"is", "is planar"},
			{"word", "error 8"}, {"code", "error 8"}, {"order", "error 8"}, {"names", "names 2 3 1 0"}, {"shape", "shape 0"},
			{"around 2", "around 2 3"}, {"around 3", "around 3 2"}, {"face 3", "face 3"}, {"degree 2", "degree 2"}, {"degree 3", "degree 0"}, {"degree 4", "error 1"},
			{"chord 0 2", "error 8"}, {"cut 1", "ok"}, {"print", "print 1 1 3;0 1;"},
		},
		{
			// Edges on a torus.
			{"load 2 0 0;0 2 1 3;", "ok"}, {"counts", "counts 1 2 1 1 1"}, {"is", "is connected"}, {"word", "error 7"}, {"code", "error 8"},
			{"file 0", "error 7"}, {"file 1", "error 7"}, {"file 8", "error 15"}, {"shape", "shape 4"}, {"names", "names 0 1 2 3"},
			{"around 3", "around 3 0 2 1"}, {"face 0", "face 0 3 1 2"},
		},
	} {
		checkSaid(t, desk.New(), all...)
	}
}

// TestP25_2New holds a new desk's map against Seed.
func TestP25_2New(t *testing.T) {
	d, other := desk.New(), desk.New()
	if !dart.Same(d.Map(), grow.Seed()) {
		t.Fatal(d.Map().List())
	}
	first := d.Map()
	checkSaid(t, d, said{"leaf 1", "ok"}, said{"leaf 0", "ok"})
	if d.Map().Edges() != 3 || first.Edges() != 1 || !dart.Same(other.Map(), grow.Seed()) {
		t.Error("a desk's map isn't its own")
	}
	checkSaid(t, d, said{"seed", "ok"})
	if !dart.Same(d.Map(), grow.Seed()) {
		t.Error(d.Map().List())
	}
}

// TestP25_2Load names what loading answers, case by case.
func TestP25_2Load(t *testing.T) {
	for _, x := range []said{
		{"load 1 0 0;0;1;", "ok"}, {"load 1 1 2;1 0;", "ok"}, {"load 0 -1 65536;", "ok"}, {"load 3 2 1;0 5;4 3;2 1;", "ok"},
		{"load 1 0 0\n0\n1\n", "ok"}, {"load 1 0 0\n0 1;", "ok"},
		{"load", "error 13"}, {"load ", "error 13"}, {"load ;", "error 13"}, {"load 1", "error 13"}, {"load 1 0 0", "error 13"},
		{"load 1 0 0;0;1", "error 13"}, {"load 1 0 0;0;1;;", "error 13"}, {"load 1 0 0;0;01;", "error 13"}, {"load 1 0 0;0  1;", "error 13"},
		{"load  1 0 0;0;1;", "error 13"}, {"load 1 0 0;0;1; ", "error 13"}, {"load 1 0 0; 0;1;", "error 13"}, {"load 1 0 0;0 ;1;", "error 13"},
		{"load 1 0 0;0:1;", "error 13"}, {"load 1 0 0;0;1;x", "error 13"}, {"load 1 0 0;0 -1;", "error 13"}, {"load 1000000000 0 0;", "error 13"},
		{"load 1 0 0;0;", "error 4"}, {"load 1 0 0;0 0;", "error 4"}, {"load 1 0 0;0;2;", "error 4"}, {"load 2 0 0;0;1;", "error 4"},
		{"load 1 2 0;0;1;", "error 5"}, {"load 1 -1 0;0;1;", "error 5"}, {"load 0 0 1;", "error 5"},
		{"load 0 -1 65537;", "error 6"}, {"load 1 0 999999999;0 1;", "error 6"},
	} {
		d := desk.New()
		checkSaid(t, d, said{"leaf 0", "ok"}, x)
		checkStays(t, d, x, "print 2 0 0;0 2;1;3;")
	}
}

// checkStays holds a desk, that was told a line, against its print ahead of
// that, if the line went wrong.
func checkStays(t *testing.T, d *desk.Desk, x said, print string) {
	t.Helper()
	if strings.HasPrefix(x.want, "error ") {
		checkSaid(t, d, said{"print", print})
	}
}

// TestP25_2LoadLarge loads as long a text as can be, and longer ones.
func TestP25_2LoadLarge(t *testing.T) {
	darts := 2 * api.MaxEdges
	var s strings.Builder
	s.WriteString("131072 0 0;")
	for range (api.MaxText - s.Len()) / 2 {
		s.WriteString("0;")
	}
	s.WriteString(strings.Repeat("7", api.MaxText-s.Len()))
	whole := s.String()
	if len(whole) != api.MaxText {
		t.Fatal(len(whole))
	}
	m := samples.Map(t, samples.Path(darts), 5, api.MaxLone)
	d := desk.New()
	checkSaid(t, d,
		said{"load " + whole, "error 13"}, said{"load " + whole + "x", "error 6"}, said{"load " + whole + "  x", "error 13"},
		said{"load " + strings.Repeat("x", 3*api.MaxText), "error 6"}, said{"print", "print 1 0 0;0;1;"},
		said{"load " + textOf(t, m), "ok"}, said{"print", "print " + textOf(t, m)},
		said{"counts", "counts 131073 65536 1 65537 0"}, said{"leaf 0", "error 6"}, said{"star 0", "error 6"}, said{"cut 0", "error 6"}, said{"shrink 9", "ok"},
		said{"leaf 0", "ok"}, said{"split 0", "error 6"},
	)
	if d.Map().Edges() != api.MaxEdges || d.Map().Lone() != api.MaxLone {
		t.Error(d.Map().Edges(), d.Map().Lone())
	}
}

// TestP25_2Open names what opening answers, case by case.
func TestP25_2Open(t *testing.T) {
	d := desk.New()
	checkSaid(t, d, said{"leaf 0", "ok"})
	right := "5051000001020044" + sumOf(t, 0x50, 0x51, 0, 0, 1, 2, 0, 0x44)
	checkSaid(t, d, said{"file 0", "file " + right})
	unbalanced := "5051000001020051" + sumOf(t, 0x50, 0x51, 0, 0, 1, 2, 0, 0x51)
	long := "505100800001020044" + sumOf(t, 0x50, 0x51, 0, 0x80, 0, 1, 2, 0, 0x44)
	flipped := right[:len(right)-1] + string("1032547698badcfe"[strings.IndexByte("0123456789abcdef", right[len(right)-1])])
	for _, x := range []said{
		{"open " + right + " 2", "ok"}, {"open " + right + " 999999999", "ok"},
		{"open " + right + " 1", "error 12"}, {"open " + right + " 0", "error 12"}, {"open " + right + " -1", "error 12"},
		{"open " + right, "error 13"}, {"open", "error 13"}, {"open 2", "error 13"}, {"open  2", "error 13"}, {"open " + right + " 2 2", "error 13"},
		{"open " + right + "  2", "error 13"}, {"open " + right + " 2 ", "error 13"}, {"open " + right + " ", "error 13"},
		{"open " + right + " 02", "error 13"}, {"open " + right + " -0", "error 13"}, {"open " + right + " x", "error 13"}, {"open " + right + " 1000000000", "error 13"},
		{"open 2 " + right, "error 13"}, {"open " + right[1:] + " 2", "error 13"}, {"open x" + right[1:] + " 2", "error 13"},
		{"open " + strings.ToUpper(right) + "AA 2", "error 13"}, {"open 0x" + right + " 2", "error 13"},
		{"open 50 2", "error 3"}, {"open " + right[:16] + " 2", "error 3"}, {"open 50" + right + " 2", "error 3"},
		{"open 505108" + right[6:] + " 2", "error 15"}, {"open " + flipped + " 2", "error 11"}, {"open 505102" + right[6:] + " 2", "error 11"},
		{"open " + unbalanced + " 2", "error 10"}, {"open " + long + " 0", "error 10"}, {"open " + right + "00 2", "error 11"}, {"open " + strings.Repeat("50", api.MaxFile+1) + " 2", "error 6"},
		{"open " + strings.Repeat("50", api.MaxFile) + " 2", "error 3"},
	} {
		d := desk.New()
		checkSaid(t, d, said{"root 1", "ok"}, x)
		checkStays(t, d, x, "print 1 1 0;0;1;")
		if x.want == "ok" {
			checkSaid(t, d, said{"print", "print 2 0 0;0 2;1;3;"})
		}
	}
}

// TestP25_2File writes files by all options, and opens them.
func TestP25_2File(t *testing.T) {
	const triangle = "load 3 4 0;0 5;1 2;3 4;"
	d := desk.New()
	for n, begins := range []string{
		"file 505100000103", "file 505101000103", "file 505102000103006", "file 5051030001030015",
		"file 505104000103", "file 505105000103", "file 505106000103006", "file 5051070001030015",
	} {
		checkSaid(t, d, said{triangle, "ok"})
		line := "file " + string(rune('0'+n))
		told := d.Do(line)
		if !strings.HasPrefix(told, begins) {
			t.Errorf("%s: %s", line, told)
			continue
		}
		print := "print 3 0 0;0 5;1 2;3 4;"
		if n >= 4 {
			print = "print 3 4 0;0 5;1 2;3 4;"
		}
		checkSaid(t, d, said{"seed", "ok"}, said{"open " + strings.TrimPrefix(told, "file ") + " 3", "ok"}, said{"print", print})
	}
	for _, line := range []string{"file 8", "file -1", "file 16", "file 255", "file 256", "file 257", "file 263", "file -256", "file -255", "file 65536", "file 999999999", "file -999999999"} {
		for _, load := range []string{triangle, "load 2 0 0;0 2 1 3;", "load 0 -1 0;", "seed"} {
			checkSaid(t, d, said{load, "ok"}, said{line, "error 15"})
		}
	}
	checkSaid(t, d,
		said{"seed", "ok"}, said{"file 1", "error 8"}, said{"file 3", "error 8"}, said{"file 5", "error 8"}, said{"file 7", "error 8"},
		said{"file", "error 13"}, said{"file 0 0", "error 13"}, said{"file 00", "error 13"}, said{"file x", "error 13"}, said{"file 1000000000", "error 13"},
	)
}

// TestP25_2NoLine asks for what isn't one of the lines.
func TestP25_2NoLine(t *testing.T) {
	bare := strings.Fields("seed dual mirror canon print counts is word code order names shape")
	one := strings.Fields("leaf split star flip root cut shrink file around face degree")
	lines := []string{
		"", " ", "  ", "\n", "0", "-1", "x", "error", "ok", "error 13", "seeds", "see", "Seed", "SEED", "seed;", "seed\n", "\nseed", "seed\r", "seed\t", "seed\x00",
		"leaf,0", "leaf\t0", "leaf;0", "leaf0", "chord", "chord 0", "chord 0 0 0", "chord 0  0", "chord  0 0", "chord 0 0 ", " chord 0 0", "chord 0 x", "chord x 0",
		"chord -0 0", "chord 0 00", "chord 0 1000000000", "chord 0,0", "kinds", "play", "run", "do", "map", "labels", "genus", "planar", "seed seed", "\xff\xfe", "\u00a0seed",
		strings.Repeat(" ", 1<<16), strings.Repeat("x ", 1<<16), strings.Repeat("x", 1<<16), "counts" + strings.Repeat(" 0", 1<<16),
	}
	for _, name := range bare {
		lines = append(lines, name+" ", " "+name, name+" 0", name+" x", name+"  ", name+"0", strings.ToUpper(name), name+" "+name, name+"\n")
	}
	for _, name := range one {
		lines = append(lines,
			name, name+" ", name+"  0", " "+name+" 0", name+" 0 ", name+" 0 0", name+" 00", name+" -0", name+" +1", name+" x", name+" 0x0",
			name+" 1000000000", name+" -1000000000", name+"0", strings.ToUpper(name)+" 0", name+" -", name+" 0\n", name+"\n0", name+" 18446744073709551616",
		)
	}
	d := desk.New()
	checkSaid(t, d, said{"leaf 0", "ok"})
	for _, line := range lines {
		checkSaid(t, d, said{line, "error 13"}, said{"print", "print 2 0 0;0 2;1;3;"})
	}
}

// TestP25_2Acts names what goes wrong with them; the map stays.
func TestP25_2Acts(t *testing.T) {
	for _, x := range []said{
		{"leaf 4", "error 1"}, {"leaf -1", "error 1"}, {"leaf 999999999", "error 1"}, {"chord 4 0", "error 1"}, {"chord 0 4", "error 1"}, {"chord 0 -1", "error 1"},
		{"split 4", "error 1"}, {"split -1", "error 1"}, {"star 4", "error 1"}, {"star -1", "error 1"}, {"flip 4", "error 1"}, {"flip 0", "error 8"},
		{"root 4", "error 5"}, {"root -1", "error 5"}, {"cut 4", "error 1"}, {"cut -1", "error 1"}, {"shrink 4", "error 1"}, {"shrink -1", "error 1"},
	} {
		d := desk.New()
		checkSaid(t, d, said{"leaf 0", "ok"}, x)
		checkStays(t, d, x, "print 2 0 0;0 2;1;3;")
	}
	for _, x := range []struct{ line, print string }{
		{"leaf 2", "print 3 0 0;0 2 4;1;3;5;"}, {"chord 3 1", "print 3 0 0;0 2;1 5;3 4;"}, {"chord 1 3", "print 3 0 0;0 2;1 4;3 5;"}, {"chord 1 1", "print 3 0 0;0 2;1 4 5;3;"},
		{"split 2", "print 3 0 0;0 2;1;3 4;5;"}, {"star 0", "print 6 0 0;0 8 2 4;1 6;3 10;5 11 9 7;"},
		{"root 3", "print 2 3 0;0 2;1;3;"}, {"cut 1", "print 1 0 1;0;1;"}, {"cut 2", "print 1 0 1;0;1;"}, {"shrink 0", "print 1 0 0;0;1;"}, {"shrink 3", "print 1 0 0;0;1;"},
		{"dual", "print 2 0 0;0 1 2 3;"}, {"mirror", "print 2 0 0;0 2;1;3;"}, {"canon", "print 2 0 0;0 2;1;3;"},
	} {
		d := desk.New()
		checkSaid(t, d, said{"leaf 0", "ok"}, said{x.line, "ok"}, said{"print", x.print})
	}
}

// TestP25_2Run holds what a text's lines are.
func TestP25_2Run(t *testing.T) {
	for _, x := range []struct {
		text string
		want []string
	}{
		{"", []string{"error 13"}},
		{"word", []string{"word ()"}},
		{"word\n", []string{"word ()", "error 13"}},
		{"leaf 0\nword", []string{"ok", "word ()()"}},
		{"leaf 0\nword\n", []string{"ok", "word ()()", "error 13"}},
		{"\n", []string{"error 13", "error 13"}},
		{"\n\n", []string{"error 13", "error 13", "error 13"}},
		{"\nword", []string{"error 13", "word ()"}},
		{"\nword\n", []string{"error 13", "word ()", "error 13"}},
		{"leaf 0\n\nword", []string{"ok", "error 13", "word ()()"}},
		{"leaf 0\n\n", []string{"ok", "error 13", "error 13"}},
		{"leaf 0\n ", []string{"ok", "error 13"}},
		{"leaf 0\r\nword", []string{"error 13", "word ()"}},
		{"leaf 0\n\rword", []string{"ok", "error 13"}},
		{"leaf 0\rword", []string{"error 13"}},
		{"leaf 0;word", []string{"error 13"}},
		{"load 2 0 0;0 1;2 3;\nprint\nleaf 9\nprint\nseed\ncounts", []string{"ok", "print 2 0 0;0 1;2 3;", "error 1", "print 2 0 0;0 1;2 3;", "ok", "counts 2 1 1 1 0"}},
		{"load 1 0 0\n0\n1\n", []string{"error 13", "error 13", "error 13", "error 13"}},
	} {
		for range 2 { // each time on a new desk
			if got := desk.Run(x.text); !slices.Equal(got, x.want) {
				t.Errorf("%q: %q, want %q", x.text, got, x.want)
			}
		}
	}
	if got := desk.Run(strings.Repeat("leaf 0\n", 500) + "degree 0"); len(got) != 501 || got[500] != "degree 501" {
		t.Error(len(got), got[len(got)-1])
	}
	if got := desk.Run(strings.Repeat("\n", 1<<16)); len(got) != 1<<16+1 || slices.ContainsFunc(got, func(s string) bool { return s != "error 13" }) {
		t.Error(len(got))
	}
}

// linesOf goes through text byte by byte: each 0a ends a line, and what is
// behind the last one is a line, too, whatever it is.
func linesOf(text string) []string {
	lines := []string{""}
	for i := range len(text) {
		if text[i] == '\n' {
			lines = append(lines, "")
		} else {
			lines[len(lines)-1] += text[i : i+1]
		}
	}
	return lines
}

// TestP25_2RunLines runs all short texts of 0a, right lines, and wrong ones: as
// many lines are answered as there are 0a, and one more, each as a desk answers
// them one behind the other.
func TestP25_2RunLines(t *testing.T) {
	parts := strings.NewReplacer("n", "\n", "l", "leaf 0", "w", "word", "b", " ")
	for n := range 7 {
		for _, s := range samples.Texts("nlwb", n) {
			text := parts.Replace(s)
			lines, got := linesOf(text), desk.Run(text)
			if want := strings.Count(text, "\n") + 1; len(lines) != want || len(got) != want {
				t.Fatalf("%q: %q, %d lines, want %d", text, got, len(lines), want)
			}
			d := desk.New()
			for i, line := range lines {
				if want := d.Do(line); got[i] != want {
					t.Fatalf("%q: %q, want %q of line %d", text, got, want, i)
				}
			}
		}
	}
}

// TestP25_2Nil asks a nil desk.
func TestP25_2Nil(t *testing.T) {
	var d *desk.Desk
	for _, line := range []string{"", "seed", "leaf 0", "leaf", "print", "counts", "load", "load 1 0 0;0;1;", "open 50 1", "file 9", "nothing", " ", "around 9"} {
		checkSaid(t, d, said{line, "error 2"})
	}
	if d.Map() != nil {
		t.Error("a nil desk has a map")
	}
}

func TestExamples(t *testing.T) {
	if got := desk.Run("leaf 0\nword"); !slices.Equal(got, []string{"ok", "word ()()"}) {
		t.Error(got)
	}
	checkSaid(t, desk.New(), said{"counts", "counts 2 1 1 1 0"})
}

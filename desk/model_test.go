package desk_test

import (
	"bytes"
	"fmt"
	"hash/crc32"
	"math/rand/v2"
	"regexp"
	"slices"
	"strconv"
	"strings"
	"testing"

	"parquetry/api"
	"parquetry/canon"
	"parquetry/dart"
	"parquetry/desk"
	"parquetry/dual"
	"parquetry/euler"
	"parquetry/file"
	"parquetry/grow"
	"parquetry/rots"
	"parquetry/samples"
	"parquetry/shell"
	"parquetry/turan"
	"parquetry/word"
)

// sumOf is a file's checksum of these bytes, as signs.
func sumOf(t *testing.T, p ...byte) string {
	t.Helper()
	sum := crc32.ChecksumIEEE(p)
	return fmt.Sprintf("%02x%02x%02x%02x", byte(sum), byte(sum>>8), byte(sum>>16), byte(sum>>24))
}

// textOf is the text of m, as it stands in a line.
func textOf(t *testing.T, m *dart.Map) string {
	t.Helper()
	p, err := rots.Print(m)
	if err != api.OK {
		t.Fatal(err)
	}
	return string(bytes.ReplaceAll(p, []byte("\n"), []byte(";")))
}

// told is words with a blank between them; of a list its numbers are words.
func told(words ...any) string {
	var all []string
	for _, w := range words {
		all = append(all, strings.Fields(strings.Trim(fmt.Sprint(w), "[]"))...)
	}
	return strings.Join(all, " ")
}

// modelled is what comes of a line: the map, what is told, and the error.
type modelled struct {
	m    *dart.Map
	told string
	err  api.Errno
}

// rule is a form of lines, as the document's table writes it, and what comes of
// one of them, by its words.
type rule struct {
	form string
	do   func(m *dart.Map, x []string) modelled
}

// number is the number that a word is, that is one.
func number(w string) int {
	x, _ := strconv.Atoi(w)
	return x
}

// changes answers what comes of a line that turns the map.
func changes(m *dart.Map, err api.Errno) modelled { return modelled{m, "ok", err} }

// exists is the error of what there isn't.
func exists(l []int) api.Errno {
	if len(l) == 0 {
		return api.ErrRange
	}
	return api.OK
}

// actRules are those of layer 24's acts, by the layers that it calls.
func actRules() []rule {
	return []rule{
		{"leaf N", func(m *dart.Map, x []string) modelled { return changes(grow.Leaf(m, number(x[0]))) }},
		{"split N", func(m *dart.Map, x []string) modelled { return changes(grow.Split(m, number(x[0]))) }},
		{"star N", func(m *dart.Map, x []string) modelled { return changes(grow.Star(m, number(x[0]))) }},
		{"flip N", func(m *dart.Map, x []string) modelled { return changes(grow.Flip(m, number(x[0]))) }},
		{"root N", func(m *dart.Map, x []string) modelled { return changes(m.Rooted(number(x[0]))) }},
		{"cut N", func(m *dart.Map, x []string) modelled { return changes(dual.Cut(m, number(x[0])>>1)) }},
		{"shrink N", func(m *dart.Map, x []string) modelled { return changes(dual.Shrink(m, number(x[0])>>1)) }},
		{"chord N N", func(m *dart.Map, x []string) modelled { return changes(grow.Chord(m, number(x[0]), number(x[1]))) }},
		{"dual", func(m *dart.Map, _ []string) modelled { return changes(dual.Dual(m), api.OK) }},
		{"mirror", func(m *dart.Map, _ []string) modelled { return changes(dual.Mirror(m), api.OK) }},
		{"canon", func(m *dart.Map, _ []string) modelled {
			named, _, err := canon.Canon(m)
			return changes(named, err)
		}},
		{"seed", func(*dart.Map, []string) modelled { return changes(grow.Seed(), api.OK) }},
	}
}

// readRules are those of texts and files.
func readRules() []rule {
	return []rule{
		{"load T", func(_ *dart.Map, x []string) modelled {
			m, _, err := rots.Parse([]byte(strings.ReplaceAll(x[0], ";", "\n")))
			return changes(m, err)
		}},
		{"open H N", func(_ *dart.Map, x []string) modelled {
			var p []byte
			fmt.Sscanf(x[0], "%x", &p)
			m, _, err := file.Decode(p, number(x[1]))
			return changes(m, err)
		}},
		{"file N", func(m *dart.Map, x []string) modelled {
			n := number(x[0])
			if n < 0 || n > 7 {
				return modelled{err: api.ErrOption}
			}
			p, err := file.Encode(m, file.Options{Tri: n%2 == 1, Plain: n/2%2 == 1, Labels: n/4 == 1})
			return modelled{m, fmt.Sprintf("file %x", p), err}
		}},
		{"print", func(m *dart.Map, _ []string) modelled {
			p, err := rots.Print(m)
			return modelled{m, "print " + strings.ReplaceAll(string(p), "\n", ";"), err}
		}},
	}
}

// askRules are those of what is asked of the map.
func askRules() []rule {
	return []rule{
		{"counts", func(m *dart.Map, _ []string) modelled {
			return modelled{m, told("counts", m.Vertices(), m.Edges(), m.Borders(), len(euler.Parts(m)), euler.Genus(m)), api.OK}
		}},
		{"is", func(m *dart.Map, _ []string) modelled {
			s := "is"
			if euler.Planar(m) {
				s += " planar"
			}
			if euler.Connected(m) {
				s += " connected"
			}
			if euler.Simple(m) {
				s += " simple"
			}
			if euler.Triangulation(m) {
				s += " triangulation"
			}
			return modelled{m, s, api.OK}
		}},
		{"word", func(m *dart.Map, _ []string) modelled {
			w, err := turan.Encode(m)
			// Its own brackets are no list's.
			return modelled{m, strings.TrimSuffix("word "+w.Text(), " "), err}
		}},
		{"code", func(m *dart.Map, _ []string) modelled {
			v, err := word.Encode(m)
			return modelled{m, "code " + v.Text(), err}
		}},
		{"order", func(m *dart.Map, _ []string) modelled {
			l, err := shell.Order(m)
			return modelled{m, told("order", l), err}
		}},
		{"names", func(m *dart.Map, _ []string) modelled {
			_, p, err := canon.Canon(m)
			return modelled{m, told("names", p.List()), err}
		}},
		{"shape", func(m *dart.Map, _ []string) modelled { return modelled{m, told("shape", canon.Shape(m)), api.OK} }},
		{"around N", func(m *dart.Map, x []string) modelled {
			l := m.Around(number(x[0]))
			return modelled{m, told("around", l), exists(l)}
		}},
		{"face N", func(m *dart.Map, x []string) modelled {
			l := m.Border(number(x[0]))
			return modelled{m, told("face", l), exists(l)}
		}},
		{"degree N", func(m *dart.Map, x []string) modelled {
			v := number(x[0])
			if v < 0 || v >= m.Vertices() {
				return modelled{err: api.ErrRange}
			}
			return modelled{m, told("degree", m.Degree(v)), api.OK}
		}},
	}
}

// model tells what comes of lines by the document's table alone.
type model struct {
	forms []*regexp.Regexp
	rules []rule
}

// newModel answers the model of all rules.
func newModel() model {
	var x model
	x.rules = append(append(actRules(), readRules()...), askRules()...)
	parts := strings.NewReplacer("N", `(0|-?[1-9][0-9]{0,8})`, "H", `((?:[0-9a-f][0-9a-f])+)`, "T", `([^ ]+(?: [^ ]+)*)`)
	for _, r := range x.rules {
		x.forms = append(x.forms, regexp.MustCompile("^"+parts.Replace(r.form)+"$"))
	}
	return x
}

// do answers what comes of a line: the map behind it, and what is told.
func (x model) do(m *dart.Map, line string) (*dart.Map, string) {
	for i, form := range x.forms {
		words := form.FindStringSubmatch(line)
		if words == nil {
			continue
		}
		out := x.rules[i].do(m, words[1:])
		if out.err != api.OK {
			return m, fmt.Sprintf("error %d", int(out.err))
		}
		return out.m, out.told
	}
	return m, "error 13"
}

// check asks a desk, whose map is m, for a line, and holds what it tells, and
// its map, against the model; it answers that map, and what is told.
func (x model) check(t *testing.T, d *desk.Desk, m *dart.Map, line string) (*dart.Map, string) {
	t.Helper()
	next, want := x.do(m, line)
	if got := d.Do(line); got != want {
		t.Fatalf("%q of %s: %q, want %q", samples.Short(line), samples.Short(textOf(t, m)), samples.Short(got), samples.Short(want))
	}
	if !dart.Same(d.Map(), next) {
		t.Fatalf("%q of %s: %s, want %s", samples.Short(line), samples.Short(textOf(t, m)), textOf(t, d.Map()), textOf(t, next))
	}
	return next, want
}

// deskOf answers a desk whose map is m.
func deskOf(t *testing.T, m *dart.Map) *desk.Desk {
	t.Helper()
	d := desk.New()
	if s := d.Do("load " + textOf(t, m)); s != "ok" || !dart.Same(d.Map(), m) {
		t.Fatalf("load of %s: %s", samples.Short(textOf(t, m)), s)
	}
	return d
}

// maps answers some of all kinds, those without darts too.
func maps(t *testing.T) []*dart.Map {
	t.Helper()
	r := rand.New(rand.NewPCG(255, 256))
	all := []*dart.Map{
		grow.Seed(), samples.Triangle(t), samples.Faced(t, samples.Wheel(9)...),
		samples.Beside(t, samples.Triangulation(t, r.IntN, 6), samples.Map(t, nil, -1, 1), samples.Triangle(t)),
	}
	for _, m := range samples.NoTriangulations(t) {
		all = append(all, m)
	}
	for i, sigma := range samples.Perms(4) {
		all = append(all, samples.Map(t, sigma, i%4, i%2))
	}
	for n := 3; n < 12; n++ {
		some := samples.Map(t, samples.Shuffled(r.IntN, 2*n), r.IntN(2*n), 0)
		all = append(all, samples.Planar(t, r.IntN, n), samples.Triangulation(t, r.IntN, n), some, samples.Map(t, samples.Split(r.IntN, 2*n), 1, 2))
	}
	return all
}

// TestP25_2Layers asks for each line, at all numbers and beside them, of maps
// of all kinds.
func TestP25_2Layers(t *testing.T) {
	x := newModel()
	met := map[string]map[string]int{}
	for _, m := range maps(t) {
		for _, r := range x.rules {
			name, _, _ := strings.Cut(r.form, " ")
			if name == "load" || name == "open" {
				continue
			}
			for _, line := range filled(r.form, m) {
				_, said := x.check(t, deskOf(t, m), m, line)
				if met[name] == nil {
					met[name] = map[string]int{}
				}
				if strings.HasPrefix(said, "error") {
					met[name][said]++
				} else {
					met[name]["right"]++
				}
			}
		}
	}
	for name, err := range map[string]string{
		"leaf": "error 1", "split": "error 1", "star": "error 1", "flip": "error 8", "root": "error 5", "cut": "error 1", "shrink": "error 8", "chord": "error 8",
		"file": "error 15", "word": "error 7", "code": "error 8", "order": "error 8", "around": "error 1", "face": "error 1", "degree": "error 1",
	} {
		if met[name][err] == 0 {
			t.Errorf("%s: %s isn't met: %v", name, err, met[name])
		}
	}
	for _, r := range x.rules {
		name, _, _ := strings.Cut(r.form, " ")
		if name != "load" && name != "open" && met[name]["right"] == 0 {
			t.Errorf("%s never went well", name)
		}
	}
}

// filled answers the lines of a form, of numbers alone, with those that m may
// have, and some beside them.
func filled(form string, m *dart.Map) []string {
	lines := []string{form}
	for strings.Contains(lines[0], "N") {
		var more []string
		for _, line := range lines {
			for x := -2; x < max(m.Darts(), m.Vertices(), 8)+2; x++ {
				more = append(more, strings.Replace(line, "N", strconv.Itoa(x), 1))
			}
		}
		lines = more
	}
	return lines
}

// TestP25_2RoundTrips prints and loads, and writes and opens, maps of all kinds.
func TestP25_2RoundTrips(t *testing.T) {
	x := newModel()
	for _, m := range maps(t) {
		d := deskOf(t, m)
		text := strings.TrimPrefix(d.Do("print"), "print ")
		if other := desk.New(); other.Do("load "+text) != "ok" || !dart.Same(other.Map(), m) {
			t.Fatalf("load of %s", text)
		}
		named, _, _ := canon.Canon(m)
		for n := range 8 {
			signs, ok := strings.CutPrefix(d.Do("file "+strconv.Itoa(n)), "file ")
			if !ok {
				continue
			}
			want := named
			if n >= 4 {
				want = m
			}
			other := desk.New()
			x.check(t, other, grow.Seed(), "open "+signs+" "+strconv.Itoa(m.Edges()-1))
			if next, _ := x.check(t, other, other.Map(), "open "+signs+" "+strconv.Itoa(m.Edges())); !dart.Same(next, want) {
				t.Fatalf("open of file %d of %s", n, text)
			}
		}
	}
}

// TestP25_2Any tells any lines to one desk, right ones and wrong ones, so that
// maps grow, and fall apart; Run tells the same.
func TestP25_2Any(t *testing.T) {
	x := newModel()
	r := rand.New(rand.NewPCG(257, 258))
	met := map[string]int{}
	for range 300 {
		d, m := desk.New(), grow.Seed()
		kept := []string{"0 -1 1;", "2 0 0;0 2 1 3;", "1 0 0;0 1"} // texts, to be loaded
		files := []string{"50510001", "5051000100"}                // files, to be opened
		var lines, all []string
		for range 60 {
			line := someLine(r, x.rules, m, kept, files)
			if r.IntN(8) == 0 {
				line = spoilt(r, line)
			}
			if strings.Contains(line, "\n") {
				continue
			}
			var said string
			m, said = x.check(t, d, m, line)
			lines, all = append(lines, line), append(all, said)
			name, rest, _ := strings.Cut(said, " ")
			switch name {
			case "print":
				kept = append(kept, rest)
			case "file":
				files = append(files, rest)
			case "error":
				name = said
			}
			met[name]++
		}
		// An 0a behind the last line parts it from one more, an empty one.
		for range 2 {
			if got := desk.Run(strings.Join(lines, "\n")); !slices.Equal(got, all) {
				t.Fatalf("Run of %q: %q, want %q", lines, got, all)
			}
			lines, all = append(lines, ""), append(all, "error 13")
		}
	}
	for _, name := range strings.Split("ok,print,file,counts,is,word,code,order,names,shape,around,face,degree,error 1,error 3,error 5,error 7,error 8,error 11,error 12,error 13,error 15", ",") {
		if met[name] == 0 {
			t.Errorf("%s isn't met: %v", name, met)
		}
	}
}

// someLine answers a line of some rule, with numbers near those of m.
func someLine(r *rand.Rand, rules []rule, m *dart.Map, texts, files []string) string {
	line := rules[r.IntN(len(rules))].form
	line = strings.Replace(line, "T", texts[r.IntN(len(texts))], 1)
	line = strings.Replace(line, "H", files[r.IntN(len(files))], 1)
	for strings.Contains(line, "N") {
		x := r.IntN(m.Darts()+2) - r.IntN(2)
		if strings.HasPrefix(line, "file") {
			x = r.IntN(10) - 1
		}
		line = strings.Replace(line, "N", strconv.Itoa(x), 1)
	}
	return line
}

// spoilt answers a line with a sign more, less, or another one.
func spoilt(r *rand.Rand, line string) string {
	const signs = " 0189af-+;x\tS\xc3"
	at := r.IntN(len(line))
	sign := string(signs[r.IntN(len(signs))])
	switch r.IntN(3) {
	case 0:
		return line[:at] + line[at+1:]
	case 1:
		return line[:at] + sign + line[at:]
	}
	return line[:at] + sign + line[at+1:]
}

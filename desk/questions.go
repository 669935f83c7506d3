package desk

import (
	"strings"

	"parquetry/api"
	"parquetry/canon"
	"parquetry/dart"
	"parquetry/euler"
	"parquetry/file"
	"parquetry/rots"
	"parquetry/shell"
	"parquetry/turan"
	"parquetry/word"
)

// fileMark is how a file begins, ahead of the byte of its options.
const fileMark = "PQ"

// options are those whose byte n is.
func options(n int) (file.Options, api.Errno) {
	b := byte(n)
	if int(b) != n {
		return file.Options{}, api.ErrOption
	}
	return file.Head(append([]byte(fileMark), b))
}

// fileOf tells the file of m by the options that are told.
func fileOf(m *dart.Map, numbers []int) ([]string, api.Errno) {
	o, err := options(numbers[0])
	if err != api.OK {
		return nil, err
	}
	p, err := file.Encode(m, o)
	return []string{Hex(p)}, err
}

// printed tells the text of m.
func printed(m *dart.Map, _ []int) ([]string, api.Errno) {
	p, err := rots.Print(m)
	return []string{strings.ReplaceAll(string(p), lineEnd, mapEnd)}, err
}

// counts tells how many m has of all that there is.
func counts(m *dart.Map, _ []int) ([]string, api.Errno) {
	return numerals(m.Vertices(), m.Edges(), m.Borders(), len(euler.Parts(m)), euler.Genus(m)), api.OK
}

// is tells what m is like.
func is(m *dart.Map, _ []int) ([]string, api.Errno) {
	var words []string
	for _, x := range []struct {
		name  string
		holds func(m *dart.Map) bool
	}{
		{"planar", euler.Planar},
		{"connected", euler.Connected},
		{"simple", euler.Simple},
		{"triangulation", euler.Triangulation},
	} {
		if x.holds(m) {
			words = append(words, x.name)
		}
	}
	return words, api.OK
}

// wordOf tells the word of m, if it has letters.
func wordOf(m *dart.Map, _ []int) ([]string, api.Errno) {
	w, err := turan.Encode(m)
	if w.Len() == 0 {
		return nil, err
	}
	return []string{w.Text()}, err
}

// codeOf tells the code of m.
func codeOf(m *dart.Map, _ []int) ([]string, api.Errno) {
	v, err := word.Encode(m)
	return []string{v.Text()}, err
}

// order tells the order in which vertices are taken away from m's border.
func order(m *dart.Map, _ []int) ([]string, api.Errno) {
	l, err := shell.Order(m)
	return numerals(l...), err
}

// names tells how m's darts are called canonically.
func names(m *dart.Map, _ []int) ([]string, api.Errno) {
	_, p, err := canon.Canon(m)
	return numerals(p.List()...), err
}

// shape tells in how many ways m turns into itself.
func shape(m *dart.Map, _ []int) ([]string, api.Errno) {
	return numerals(canon.Shape(m)), api.OK
}

// around tells the darts of a dart's vertex.
func around(m *dart.Map, numbers []int) ([]string, api.Errno) {
	return those(m.Around(numbers[0]))
}

// face tells the darts of a dart's face.
func face(m *dart.Map, numbers []int) ([]string, api.Errno) {
	return those(m.Border(numbers[0]))
}

// those tells the darts around something; there is nothing without darts.
func those(darts []int) ([]string, api.Errno) {
	if len(darts) == 0 {
		return nil, api.ErrRange
	}
	return numerals(darts...), api.OK
}

// degree tells how many darts a vertex has.
func degree(m *dart.Map, numbers []int) ([]string, api.Errno) {
	n := m.Degree(numbers[0])
	if n < 0 {
		return nil, api.ErrRange
	}
	return numerals(n), api.OK
}

package desk

import (
	"strings"

	"parquetry/api"
	"parquetry/dart"
	"parquetry/file"
	"parquetry/grow"
	"parquetry/rots"
	"parquetry/script"
)

const (
	// done is what is told when the map is another one.
	done = "ok"
	// mapEnd stands in a line where 0a stands in a map's text.
	mapEnd = ";"
)

// request is what a line may ask for: its first word, and what is done.
type request struct {
	name string
	do   deed
}

// deed answers what m turns to, and what is told; rest is the words behind the
// first one.
type deed func(m *dart.Map, rest string) (*dart.Map, string, error)

// requests are all that there are.
func requests() []request {
	all := []request{
		turns("seed", 0, seed),
		{"load", load},
		{"open", open},
		tells("file", 1, fileOf),
		tells("print", 0, printed),
		tells("counts", 0, counts),
		tells("is", 0, is),
		tells("word", 0, wordOf),
		tells("code", 0, codeOf),
		tells("order", 0, order),
		tells("names", 0, names),
		tells("shape", 0, shape),
		tells("around", 1, around),
		tells("face", 1, face),
		tells("degree", 1, degree),
	}
	for kind := range script.Kinds {
		all = append(all, turns(script.Name(kind), dartsOf(kind), act(kind)))
	}
	return all
}

// turns answers the request by which a map turns to what to answers of it and
// of so many numbers.
func turns(name string, count int, to func(m *dart.Map, numbers []int) (*dart.Map, api.Errno)) request {
	return request{name, func(m *dart.Map, rest string) (*dart.Map, string, error) {
		numbers, ok := numbersOf(rest, count)
		if !ok {
			return nil, "", fault(api.ErrText)
		}
		return turned(to(m, numbers))
	}}
}

// turned is what comes of a map that is another one now, if it went well.
func turned(m *dart.Map, e api.Errno) (*dart.Map, string, error) {
	if err := failed(e); err != nil {
		return nil, "", err
	}
	return m, done, nil
}

// tells answers the request that tells the words that ask answers of a map and
// of so many numbers.
func tells(name string, count int, ask func(m *dart.Map, numbers []int) ([]string, api.Errno)) request {
	return request{name, func(m *dart.Map, rest string) (*dart.Map, string, error) {
		numbers, ok := numbersOf(rest, count)
		if !ok {
			return nil, "", fault(api.ErrText)
		}
		words, e := ask(m, numbers)
		if err := failed(e); err != nil {
			return nil, "", err
		}
		return m, sentence(name, words...), nil
	}}
}

// seed answers one edge, whatever the map is.
func seed(*dart.Map, []int) (*dart.Map, api.Errno) { return grow.Seed(), api.OK }

// load is the deed by which the map is the one whose text rest is.
func load(_ *dart.Map, rest string) (*dart.Map, string, error) {
	m, _, e := rots.Parse([]byte(strings.ReplaceAll(rest, mapEnd, lineEnd)))
	return turned(m, e)
}

// open is the deed by which the map is the one whose file, and limit, rest
// tells.
func open(_ *dart.Map, rest string) (*dart.Map, string, error) {
	signs, limits, _ := strings.Cut(rest, blank)
	p, isHex := Unhex(signs)
	limit, isOne := numbersOf(limits, 1)
	if !isHex || !isOne {
		return nil, "", fault(api.ErrText)
	}
	m, _, e := file.Decode(p, limit[0])
	return turned(m, e)
}

// act answers what acts of a kind do at the darts that are told.
func act(kind int) func(m *dart.Map, darts []int) (*dart.Map, api.Errno) {
	return func(m *dart.Map, darts []int) (*dart.Map, api.Errno) {
		var at [2]int
		copy(at[:], darts)
		return script.Do(m, script.Act{Kind: kind, D: at[0], E: at[1]})
	}
}

// dartsOf is how many darts acts of a kind are told.
func dartsOf(kind int) int {
	switch kind {
	case script.Chord:
		return 2
	case script.Dual, script.Mirror, script.Canon:
		return 0
	}
	return 1
}

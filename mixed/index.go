package mixed

import (
	"sort"

	"parquetry/api"
	"parquetry/paren"
	"parquetry/rank"
)

// Mixed is a word's index. It holds just as many bits as the word, besides
// the directories: of each letter its shape, and of those of each shape alone
// which ones open. Several goroutines may ask it, since they may ask these.
type Mixed struct {
	shapes *rank.Index
	pairs  [shapeCount]*paren.Paren
}

// Index answers the index of the letters that w has now; nil has none.
func Index(w *Word) (*Mixed, api.Errno) {
	m := &Mixed{shapes: rank.New(w.vector(isKind, shapeOf))}
	for shape := range m.pairs {
		own := func(kind int) bool { return shapeOf(kind) == shape }
		pairs, e := paren.New(w.vector(own, opening))
		if e != api.OK {
			return nil, e
		}
		m.pairs[shape] = pairs
	}
	return m, api.OK
}

// Len is how many letters there are.
func (m *Mixed) Len() int {
	if m == nil {
		return 0
	}
	return m.shapes.Len()
}

// At is the kind of the i-th letter, or -1.
func (m *Mixed) At(i int) int {
	if i < 0 || i >= m.Len() {
		return -1
	}
	shape := m.shapes.At(i)
	return kindOf(shape, m.pairs[shape].Open(m.ahead(shape, i)))
}

// Mate is the place of the other one of the i-th letter's pair.
func (m *Mixed) Mate(i int) (int, api.Errno) {
	if e := m.ready(i, m.Len()-1); e != api.OK {
		return 0, e
	}
	shape := m.shapes.At(i)
	return m.place(shape, m.mate(shape, m.ahead(shape, i))), api.OK
}

// Owner is where the innermost round pair opens that the i-th letter stands
// within, or -1.
func (m *Mixed) Owner(i int) (int, api.Errno) {
	if e := m.ready(i, m.Len()-1); e != api.OK {
		return 0, e
	}
	owner := m.owner(i)
	if owner == -1 {
		return -1, api.OK
	}
	return m.place(round, owner), api.OK
}

// owner is Owner of a place that there is, counted among the round letters
// alone.
func (m *Mixed) owner(i int) int {
	at := m.ahead(round, i)
	if m.At(i) == Close {
		return m.mate(round, at)
	}
	if at == 0 {
		return -1
	}
	// The round letter next ahead either opens the pair, or closes one that
	// the same pair stands around.
	if m.pairs[round].Open(at - 1) {
		return at - 1
	}
	// There is such a letter: Round can't fail.
	around, _ := m.pairs[round].Round(at - 1)
	return around
}

// Rank is how many letters of a kind stand ahead of the place i.
func (m *Mixed) Rank(kind, i int) (int, api.Errno) {
	if e := m.ready(i, m.Len()); e != api.OK {
		return 0, e
	}
	if !isKind(kind) {
		return 0, api.ErrRange
	}
	return m.count(kind, m.ahead(shapeOf(kind), i)), api.OK
}

// Select is the place of the letter of a kind with k such ahead of it.
func (m *Mixed) Select(kind, k int) (int, api.Errno) {
	if m == nil {
		return 0, api.ErrNone
	}
	if !isKind(kind) {
		return 0, api.ErrRange
	}
	shape := shapeOf(kind)
	n := m.pairs[shape].Len()
	if k < 0 || k >= m.count(kind, n) {
		return 0, api.ErrRange
	}
	at := sort.Search(n, func(at int) bool { return m.count(kind, at+1) > k })
	return m.place(shape, at), api.OK
}

// Size is how many bits the directories are, made or not.
func (m *Mixed) Size() int {
	if m == nil {
		return 0
	}
	size := m.shapes.Size()
	for _, pairs := range m.pairs {
		size += pairs.Size()
	}
	return size
}

// ready tells the error of what is asked of the place i, where last is the
// last one there is.
func (m *Mixed) ready(i, last int) api.Errno {
	if m == nil {
		return api.ErrNone
	}
	if i < 0 || i > last {
		return api.ErrRange
	}
	return api.OK
}

// ahead is how many letters of a shape stand ahead of a place that there is.
func (m *Mixed) ahead(shape, i int) int {
	// There is such a place: Rank can't fail.
	n, _ := m.shapes.Rank(shape, i)
	return n
}

// place is where the letter stands that has at letters of its shape ahead of
// it; there is one.
func (m *Mixed) place(shape, at int) int {
	i, _ := m.shapes.Select(shape, at)
	return i
}

// mate is the place of the other one of a pair, both counted among the
// letters of their shape alone; there is one.
func (m *Mixed) mate(shape, at int) int {
	mate, _ := m.pairs[shape].Mate(at)
	return mate
}

// count is how many of the first n letters of a kind's shape are of that
// kind; there are as many.
func (m *Mixed) count(kind, n int) int {
	excess, _ := m.pairs[shapeOf(kind)].Excess(n)
	opens := (n + excess) / 2
	if opening(kind) == 1 {
		return opens
	}
	return n - opens
}

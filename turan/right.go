package turan

import (
	"parquetry/api"
	"parquetry/mixed"
)

// rightWord is a word that some map has: it is asked by its index. Its letters
// are the steps of that map's walk, so that each place is a dart's.
type rightWord struct {
	*mixed.Mixed
}

// checked answers the right word that w is, or why it is none.
func checked(w *mixed.Word) (rightWord, api.Errno) {
	index, e := mixed.Index(w)
	if e != api.OK {
		return rightWord{}, e
	}
	word := rightWord{index}
	for i := range word.Len() {
		if word.At(i) == mixed.Left && !word.leadsBack(i) {
			return rightWord{}, api.ErrCanon
		}
	}
	return word, api.OK
}

// leadsBack tells whether the Left at the place i leads to a vertex that was
// met ahead of it. Where that vertex opens further behind, the walk would have
// opened it by this very dart.
func (w rightWord) leadsBack(i int) bool {
	// There is such a place, and so there is its pair's: Owner can't fail.
	met, _ := w.Owner(w.pair(i))
	return met < i
}

// pair is the place of the other one of the i-th letter's pair; there is such
// a letter.
func (w rightWord) pair(i int) int {
	other, _ := w.Mate(i)
	return other
}

// names answers of each place its dart. An edge is looked at first where its
// pair opens.
func (w rightWord) names() []int {
	names := make([]int, w.Len())
	next := 0
	for i := range names {
		if kind := w.At(i); kind == mixed.Open || kind == mixed.Left {
			names[i], names[w.pair(i)] = next, mate(next)
			next += 2
		}
	}
	return names
}

// turns answers where Sigma goes: from the dart that each step turns around
// to the one that is looked at next, behind the last one to the root.
func (w rightWord) turns() []int {
	names := w.names()
	sigma := make([]int, len(names))
	for i, d := range names {
		around := d
		if kind := w.At(i); kind == mixed.Open || kind == mixed.Close {
			around = mate(d)
		}
		sigma[around] = names[(i+1)%len(names)]
	}
	return sigma
}

// mate is the other dart of d's edge.
func mate(d int) int { return d ^ 1 }

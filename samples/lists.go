// Package samples makes what the tests of several layers are made of: texts,
// bits, permutations and maps. The layers themselves don't call it.
package samples

import (
	"slices"
	"strconv"
	"strings"

	"parquetry/bits"
)

// shortText is how long a text may be and still be told whole.
const shortText = 80

// Texts answers all texts of n of these signs.
func Texts(signs string, n int) []string {
	all := []string{""}
	for range n {
		var longer []string
		for _, s := range all {
			for _, sign := range signs {
				longer = append(longer, s+string(sign))
			}
		}
		all = longer
	}
	return all
}

// IsBalanced tells whether those letters of s that are of a pair's two signs
// are balanced alone.
func IsBalanced(s, pair string) bool {
	alone := strings.Map(func(sign rune) rune {
		if strings.ContainsRune(pair, sign) {
			return sign
		}
		return -1
	}, s)
	for strings.Contains(alone, pair) {
		alone = strings.ReplaceAll(alone, pair, "")
	}
	return alone == ""
}

// Short answers s, or its beginning and how long it is.
func Short(s string) string {
	if len(s) <= shortText {
		return s
	}
	return s[:shortText] + ".. (" + strconv.Itoa(len(s)) + ")"
}

// Vec answers the vector whose Text is s.
func Vec(s string) *bits.Vec {
	v := bits.New()
	for _, sign := range s {
		v.Add(int(sign - '0'))
	}
	return v
}

// Perms answers all permutations of 0 to n - 1, as lists.
func Perms(n int) [][]int {
	if n == 0 {
		return [][]int{{}}
	}
	var all [][]int
	for _, l := range Perms(n - 1) {
		for at := range n {
			all = append(all, slices.Insert(slices.Clone(l), at, n-1))
		}
	}
	return all
}

// Shuffled answers some permutation of 0 to n - 1, as a list; pick tells some
// number below its own.
func Shuffled(pick func(n int) int, n int) []int {
	l := make([]int, n)
	for i := range l {
		j := pick(i + 1)
		l[i] = l[j]
		l[j] = i
	}
	return l
}

// Split answers Sigma of n darts in many small orbits, so that a map of them
// has several parts.
func Split(pick func(n int) int, n int) []int {
	sigma := Each(n, func(d int) int { return d })
	for range n / 2 {
		i, j := pick(n), pick(n)
		sigma[i], sigma[j] = sigma[j], sigma[i]
	}
	return sigma
}

// AllNames answers all names of the darts of so many edges, as lists.
func AllNames(edges int) [][]int {
	var all [][]int
	for _, to := range Perms(edges) {
		for turns := range 1 << edges {
			l := make([]int, 2*edges)
			for e, other := range to {
				turn := turns >> e & 1
				l[2*e], l[2*e+1] = 2*other+turn, 2*other+1-turn
			}
			all = append(all, l)
		}
	}
	return all
}

// Names answers some names of the darts of so many edges, as a list: each
// edge's go to those of one edge.
func Names(pick func(n int) int, edges int) []int {
	var l []int
	for _, e := range Shuffled(pick, edges) {
		turned := pick(2)
		l = append(l, 2*e+turned, 2*e+1-turned)
	}
	return l
}

// RightText answers the text of some word of so many edges that some planar
// map has: of ten pairs so many are round, and of ten letters so many open.
func RightText(pick func(n int) int, edges, rounds, opens int) string {
	s := make([]byte, 0, 2*edges)
	var within []int // of each round pair that is open, how many square ones are within it alone
	squares := 0     // how many are, of what is around them all
	for opened := 0; len(s) < 2*edges; {
		switch {
		case opened < edges && (squares+len(within) == 0 || pick(10) < opens):
			opened++
			if pick(10) < rounds {
				s, within, squares = append(s, '('), append(within, squares), 0
			} else {
				s, squares = append(s, '['), squares+1
			}
		case squares > 0 && (len(within) == 0 || pick(10) >= rounds):
			s, squares = append(s, ']'), squares-1
		default:
			// The square pairs that are open yet are within what is around, too.
			last := len(within) - 1
			s, squares, within = append(s, ')'), squares+within[last], within[:last]
		}
	}
	return string(s)
}

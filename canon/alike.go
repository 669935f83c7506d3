package canon

import (
	"slices"

	"parquetry/dart"
)

// sorts are a map's darts, those of a sort side by side. They are parted finer
// and finer, till Sigma and Mate take each sort to a sort. No turn of the map
// into itself takes a dart to one of another sort.
type sorts struct {
	darts  []int // sort by sort
	place  []int // of each dart, where it stands in darts
	of     []int // of each dart, its sort
	from   []int // of each sort, where it begins in darts
	size   []int // of each sort, how many it has
	chosen []int // of each sort, how many of its first ones are chosen
}

// alike answers all darts of the same sort as d.
func alike(m *dart.Map, d int) []int {
	s := sorted(m)
	// What is parted off is a new sort, that has its turn here, too. It is
	// the smaller half: to part by both halves tells no more than to part by
	// the whole, that had its turn or has it yet, and by one of them.
	for sort := 0; sort < len(s.from); sort++ {
		darts := slices.Clone(s.all(sort))
		for _, step := range [2]func(d int) int{m.Back, m.Mate} {
			s.part(darts, step)
		}
	}
	return s.all(s.of[d])
}

// looks is what a dart looks like alone.
type looks struct{ degree, border int }

// sorted answers the darts of m by what they look like alone.
func sorted(m *dart.Map) *sorts {
	n := m.Darts()
	s := &sorts{darts: make([]int, n), place: make([]int, n), of: make([]int, n)}
	borders := make([]int, m.Borders())
	for d := range n {
		borders[m.Face(d)]++
	}
	named := map[looks]int{}
	for d := range n {
		l := looks{degree: m.Degree(m.Vertex(d)), border: borders[m.Face(d)]}
		sort, ok := named[l]
		if !ok {
			sort = s.add(0, 0)
			named[l] = sort
		}
		s.of[d] = sort
		s.size[sort]++
	}
	for sort := 1; sort < len(s.from); sort++ {
		s.from[sort] = s.from[sort-1] + s.size[sort-1]
	}
	next := slices.Clone(s.from)
	for d, sort := range s.of {
		s.put(d, next[sort])
		next[sort]++
	}
	return s
}

// add puts a sort behind the others, and answers its number.
func (s *sorts) add(from, size int) int {
	s.from = append(s.from, from)
	s.size = append(s.size, size)
	s.chosen = append(s.chosen, 0)
	return len(s.from) - 1
}

// put lets the dart d stand at a place.
func (s *sorts) put(d, place int) { s.darts[place], s.place[d] = d, place }

// all is the darts of a sort, as they stand there now.
func (s *sorts) all(sort int) []int { return s.darts[s.from[sort]:][:s.size[sort]] }

// part parts each sort by whether step takes one of darts to its dart.
func (s *sorts) part(darts []int, step func(d int) int) {
	var touched []int
	for _, d := range darts {
		to := step(d)
		if s.chosen[s.of[to]] == 0 {
			touched = append(touched, s.of[to])
		}
		s.choose(to)
	}
	for _, sort := range touched {
		s.halve(sort)
	}
}

// choose lets d, that isn't chosen yet, stand behind the chosen ones of its
// sort.
func (s *sorts) choose(d int) {
	sort := s.of[d]
	place := s.from[sort] + s.chosen[sort]
	s.put(s.darts[place], s.place[d])
	s.put(d, place)
	s.chosen[sort]++
}

// halve makes a new sort of what is chosen of one, or of the rest, whichever
// is less, if there is any of both. Then nothing of it is chosen any more.
func (s *sorts) halve(sort int) {
	chosen := s.chosen[sort]
	rest := s.size[sort] - chosen
	s.chosen[sort] = 0
	if rest == 0 {
		return
	}
	from := s.from[sort]
	less := min(chosen, rest)
	if chosen <= rest {
		s.from[sort] += chosen
	} else {
		from += chosen
	}
	s.size[sort] -= less
	added := s.add(from, less)
	for _, d := range s.all(added) {
		s.of[d] = added
	}
}

package desk

import (
	"strconv"
	"strings"

	"parquetry/api"
)

const (
	// mostNumber is the greatest number of as many digits as there may be.
	mostNumber = 999999999
	hexSigns   = "0123456789abcdef"
	hexBits    = 4
)

// fault is an error's number, as an error.
type fault api.Errno

// Error tells the number.
func (f fault) Error() string { return sentence("error", numerals(int(f))...) }

// failed answers the error of a number; nil, of api.OK.
func failed(e api.Errno) error {
	if e == api.OK {
		return nil
	}
	return fault(e)
}

// sentence puts words behind a name, a blank ahead of each.
func sentence(name string, words ...string) string {
	var s strings.Builder
	s.WriteString(name)
	for _, w := range words {
		s.WriteString(blank)
		s.WriteString(w)
	}
	return s.String()
}

// numerals are numbers as words.
func numerals(numbers ...int) []string {
	words := make([]string, len(numbers))
	for i, x := range numbers {
		words[i] = strconv.Itoa(x)
	}
	return words
}

// numbersOf answers the numbers that the words of s are, if they are so many.
func numbersOf(s string, count int) ([]int, bool) {
	var words []string
	if s != "" {
		// One word more than there may be is enough to tell that there are
		// too many.
		words = strings.SplitN(s, blank, count+1)
	}
	if len(words) != count {
		return nil, false
	}
	numbers := make([]int, count)
	for i, w := range words {
		x, ok := Number(w)
		if !ok {
			return nil, false
		}
		numbers[i] = x
	}
	return numbers, true
}

// Number answers the number that a word is, if it is one.
func Number(w string) (int, bool) {
	x, err := strconv.Atoi(w)
	// There is one way alone to write each number: a sign or noughts too many
	// aren't written again.
	if err != nil || x < -mostNumber || x > mostNumber || strconv.Itoa(x) != w {
		return 0, false
	}
	return x, true
}

// Hex answers p, two signs a byte.
func Hex(p []byte) string {
	s := make([]byte, 0, 2*len(p))
	for _, b := range p {
		s = append(s, hexSigns[b>>hexBits], hexSigns[b&(1<<hexBits-1)])
	}
	return string(s)
}

// Unhex answers the bytes whose Hex s is, if it is so.
func Unhex(s string) ([]byte, bool) {
	if len(s)%2 != 0 {
		return nil, false
	}
	p := make([]byte, len(s)/2)
	for i := range p {
		high, low := strings.IndexByte(hexSigns, s[2*i]), strings.IndexByte(hexSigns, s[2*i+1])
		if high < 0 || low < 0 {
			return nil, false
		}
		p[i] = byte(high<<hexBits | low)
	}
	return p, true
}

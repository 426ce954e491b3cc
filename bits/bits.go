// Package bits: sets of small numbers: layer 1: see shared/doc/01-bits.md.
package bits

import (
	mathbits "math/bits"
	"strconv"
	"strings"

	"runnel/api"
)

const (
	limit    = 4096
	wordSize = 64
)

// Sets of places in a tree lose none of them: this stops compiling if a tree may have more nodes than a set has room for.
const _ = uint(limit - api.MaxNodes)

// Set is numbers of 0 to 4095. It holds an array and not a slice, so that a copy shares nothing and == compares elements.
type Set struct {
	words [limit / wordSize]uint64
}

// Of is the set of those elements of a list that are numbers of 0 to 4095.
func Of(l []int) Set {
	var s Set
	for _, n := range l {
		if fits(n) {
			s.words[n/wordSize] |= mask(n)
		}
	}
	return s
}

// With is the set and n; a number that doesn't fit changes nothing.
func (s Set) With(n int) Set {
	if fits(n) {
		s.words[n/wordSize] |= mask(n)
	}
	return s
}

// Without is the set but for n.
func (s Set) Without(n int) Set {
	if fits(n) {
		s.words[n/wordSize] &^= mask(n)
	}
	return s
}

// Has tells whether n is an element.
func (s Set) Has(n int) bool {
	return fits(n) && s.words[n/wordSize]&mask(n) != 0
}

// Or is the union.
func (s Set) Or(t Set) Set {
	for i := range s.words {
		s.words[i] |= t.words[i]
	}
	return s
}

// And is the intersection.
func (s Set) And(t Set) Set {
	for i := range s.words {
		s.words[i] &= t.words[i]
	}
	return s
}

// Minus is the elements of s that are not in t.
func (s Set) Minus(t Set) Set {
	for i := range s.words {
		s.words[i] &^= t.words[i]
	}
	return s
}

// Count is the number of elements.
func (s Set) Count() int {
	count := 0
	for _, word := range s.words {
		count += mathbits.OnesCount64(word)
	}
	return count
}

// List is the elements in increasing order.
func (s Set) List() []int {
	list := make([]int, 0, s.Count())
	for i, word := range s.words {
		for word != 0 {
			list = append(list, i*wordSize+mathbits.TrailingZeros64(word))
			word &= word - 1
		}
	}
	return list
}

// Same tells whether both have the same elements.
func (s Set) Same(t Set) bool {
	return s == t
}

// Within tells whether each element of s is in t.
func (s Set) Within(t Set) bool {
	return s.Or(t) == t
}

// Next is the least element that is n or more, or -1.
func (s Set) Next(n int) int {
	if n >= limit {
		return -1
	}
	n = max(n, 0)
	i := n / wordSize
	// The elements below n that share its word must not be found.
	word := s.words[i] &^ (mask(n) - 1)
	for word == 0 {
		i++
		if i == len(s.words) {
			return -1
		}
		word = s.words[i]
	}
	return i*wordSize + mathbits.TrailingZeros64(word)
}

// Text is the elements in decimal, three or more consecutive ones as the first and the last one.
func (s Set) Text() string {
	var runs []string
	for first := s.Next(0); first >= 0; {
		last := s.runEnd(first)
		runs = append(runs, runText(first, last))
		first = s.Next(last + 1)
	}
	return strings.Join(runs, ",")
}

// runEnd is the last of the consecutive elements that begin with an element.
func (s Set) runEnd(first int) int {
	last := first
	for s.Has(last + 1) {
		last++
	}
	return last
}

func runText(first, last int) string {
	if first == last {
		return strconv.Itoa(first)
	}
	between := ","
	if last-first >= 2 {
		between = "-"
	}
	return strconv.Itoa(first) + between + strconv.Itoa(last)
}

func fits(n int) bool {
	return 0 <= n && n < limit
}

// mask is the bit of n in its word, for an n that fits.
func mask(n int) uint64 {
	return 1 << uint(n%wordSize)
}

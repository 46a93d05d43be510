// Package runes has sets of runes.
package runes

import (
	"slices"
	"unicode/utf8"
)

// Range is the runes from First to Last, both included.
type Range struct {
	First, Last rune
}

// One is the range of a single rune.
func One(r rune) Range { return Range{r, r} }

// Set is the runes of some ranges, or all others.
type Set struct {
	ranges []Range
	others bool
}

// Of is the set of what is in one of the ranges.
func Of(ranges ...Range) Set {
	// The caller may go on writing on its list.
	return Set{ranges: slices.Clone(ranges)}
}

// Except is the set of what is in none of the ranges; without any range it
// is the set of everything.
func Except(ranges ...Range) Set {
	s := Of(ranges...)
	s.others = true
	return s
}

// Has tells whether a number is in the set. What is no rune is in no range,
// even where its number lies between those of the range's ends.
func (s Set) Has(r rune) bool {
	within := utf8.ValidRune(r) && slices.ContainsFunc(s.ranges, func(g Range) bool {
		return g.First <= r && r <= g.Last
	})
	return within != s.others
}

// Package runes has sets of runes.
package runes

import (
	"cmp"
	"slices"
	"unicode/utf8"
)

// Range is the runes from First to Last, both included.
type Range struct {
	First, Last rune
}

// One is the range of a single rune.
func One(r rune) Range { return Range{r, r} }

// Set is the runes of some ranges, or all others.
type Set struct {
	ranges []Range // the least first, no two of them with a rune in common
	others bool
}

// Of is the set of what is in one of the ranges.
func Of(ranges ...Range) Set { return Set{ranges: ordered(ranges)} }

// Except is the set of what is in none of the ranges; without any range it
// is the set of everything.
func Except(ranges ...Range) Set { return Set{ranges: ordered(ranges), others: true} }

// ordered is the same runes by ranges that can be sought in by halves: a
// source may name a set of some hundred ranges at each of its places. The
// list that comes in is the caller's own, and stays as it is.
func ordered(ranges []Range) []Range {
	sorted := slices.Clone(ranges)
	slices.SortFunc(sorted, func(a, b Range) int { return cmp.Compare(a.First, b.First) })
	var apart []Range
	for _, next := range sorted {
		if n := len(apart); n > 0 && next.First <= apart[n-1].Last {
			apart[n-1].Last = max(apart[n-1].Last, next.Last)
		} else {
			apart = append(apart, next)
		}
	}
	return apart
}

// Has tells whether a number is in the set. What is no rune is in no range,
// even where its number lies between those of the range's ends.
func (s Set) Has(r rune) bool {
	_, within := slices.BinarySearchFunc(s.ranges, r, Range.compare)
	return (within && utf8.ValidRune(r)) != s.others
}

// compare tells whether all of the range is less than r, or above it; 0, if
// it has r.
func (g Range) compare(r rune) int {
	switch {
	case g.Last < r:
		return -1
	case r < g.First:
		return 1
	}
	return 0
}

// Package seam: texts cut by rules: see DOC.md.
package seam

import (
	"slices"
	"strings"

	"seam/api"
	"seam/match"
	"seam/rules"
)

// Units takes a text apart (P3).
func Units(text string) ([]rune, []int, api.Errno) {
	if len(text) > api.MaxText {
		return nil, nil, api.ErrLong
	}
	var runes []rune
	var starts []int
	// Go's range has just the document's units: what is no rune comes as
	// U+FFFD, and one byte wide.
	for start, r := range text {
		runes = append(runes, r)
		starts = append(starts, start)
	}
	return runes, starts, api.OK
}

// Rules are rules that were read.
type Rules struct {
	source  string // for Pack alone
	count   int
	machine *match.Machine
}

// Compile reads rules (P4).
func Compile(source string) (*Rules, int, api.Errno) {
	if len(source) > api.MaxRules {
		return nil, 0, api.ErrLong
	}
	exprs, place, errno := rules.Read(source)
	if errno != api.OK {
		return nil, place, errno
	}
	if len(exprs) > api.MaxCount || rules.Total(exprs) > api.MaxPlaces {
		return nil, 0, api.ErrLarge
	}
	return &Rules{
		// A string of our own: the caller's may be a piece of one that is
		// much longer, and all of that would be kept with it.
		source:  strings.Clone(source),
		count:   len(exprs),
		machine: match.New(exprs),
	}, 0, api.OK
}

// Count is how many rules there are (P5).
func (r *Rules) Count() int { return r.count }

// Places is how many places they have (P5).
func (r *Rules) Places() int { return r.machine.Places() }

// Same tells whether the rules can't tell two runes apart (P5).
func (r *Rules) Same(a, b rune) bool { return r.machine.Same(a, b) }

// Match is the longest match at a place (P6).
func (r *Rules) Match(text string, at int) (api.Segment, api.Errno) {
	units, starts, errno := Units(text)
	if errno != api.OK {
		return api.Segment{}, errno
	}
	edges := append(starts, len(text))
	first := unitAt(edges, at)
	length, rule := r.machine.Run().Longest(units[first:])
	return api.Segment{From: edges[first], To: edges[first+length], Rule: rule}, api.OK
}

// unitAt is the unit in which a place lies; the edges are where each unit
// begins, and the end.
func unitAt(edges []int, at int) int {
	unit, isEdge := slices.BinarySearch(edges, at)
	if !isEdge {
		// It is the edge above that was found; below 0 there is no other.
		unit = max(unit-1, 0)
	}
	return unit
}

// Cut cuts a text (P7).
func (r *Rules) Cut(text string) ([]api.Segment, api.Errno) {
	units, starts, errno := Units(text)
	if errno != api.OK {
		return nil, errno
	}
	edges := append(starts, len(text))
	run := r.machine.Run()
	var segments []api.Segment
	for first := 0; first < len(units); {
		length, rule := run.Longest(units[first:])
		end := first + max(length, 1)
		segments = append(segments, api.Segment{From: edges[first], To: edges[end], Rule: rule})
		first = end
	}
	return segments, api.OK
}

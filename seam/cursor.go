package seam

import (
	"slices"

	"seam/api"
)

// Cursor goes about in a text that was cut. The text itself it does not need.
type Cursor struct {
	boundaries []int // the least first
	at         int
}

// Over makes a cursor (P8).
func (r *Rules) Over(text string) (*Cursor, api.Errno) {
	segments, errno := r.Cut(text)
	if errno != api.OK {
		return nil, errno
	}
	boundaries := []int{0}
	for _, s := range segments {
		boundaries = append(boundaries, s.To)
	}
	return &Cursor{boundaries: boundaries}, api.OK
}

// Current is where it stands (P8).
func (c *Cursor) Current() int { return c.at }

// First goes to the beginning (P8).
func (c *Cursor) First() int { return c.goTo(0) }

// Last goes to the end (P8).
func (c *Cursor) Last() int { return c.goTo(len(c.boundaries) - 1) }

// Next goes to the next boundary (P8).
func (c *Cursor) Next() int { return c.Following(c.at) }

// Previous goes to the one ahead (P8).
func (c *Cursor) Previous() int { return c.Preceding(c.at) }

// Following goes to the first one behind a place (P8).
func (c *Cursor) Following(i int) int {
	n, isBoundary := c.seek(i)
	if isBoundary {
		n++
	}
	return c.goTo(n)
}

// Preceding goes to the last one ahead of a place (P8).
func (c *Cursor) Preceding(i int) int {
	n, _ := c.seek(i)
	return c.goTo(n - 1)
}

// IsBoundary tells whether a place is one (P8).
func (c *Cursor) IsBoundary(i int) bool {
	_, isBoundary := c.seek(i)
	return isBoundary
}

// seek is how many boundaries lie below a place, and whether it is one.
func (c *Cursor) seek(i int) (int, bool) { return slices.BinarySearch(c.boundaries, i) }

// goTo goes to the boundary with so many others below it, if there is one,
// and tells where that is.
func (c *Cursor) goTo(n int) int {
	if n < 0 || n >= len(c.boundaries) {
		return api.Done
	}
	c.at = c.boundaries[n]
	return c.at
}

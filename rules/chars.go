package rules

import (
	"strconv"
	"strings"
	"unicode/utf8"

	"seam/api"
	"seam/runes"
)

func (r *reader) quote() *Expr {
	r.at++
	var chars []*Expr
	for len(chars) == 0 || r.peek() != '\'' {
		c, ok := r.char("'")
		if !ok {
			return nil
		}
		chars = append(chars, one(runes.Of(runes.One(c))))
	}
	r.step(1)
	return join(Seq, chars)
}

func (r *reader) set() *Expr {
	r.at++
	made := runes.Of
	if r.peek() == '^' {
		r.at++
		made = runes.Except
	}
	var parts []runes.Range
	for r.peek() != ']' {
		part, ok := r.part()
		if !ok {
			return nil
		}
		parts = append(parts, part)
	}
	r.step(1)
	return one(made(parts...))
}

func (r *reader) part() (runes.Range, bool) {
	start := r.at
	first, ok := r.char("]-")
	if !ok || r.peek() != '-' {
		return runes.One(first), ok
	}
	r.at++
	last, ok := r.char("]-")
	if ok && last < first {
		ok = r.fail(start, api.ErrRange)
	}
	return runes.Range{First: first, Last: last}, ok
}

// char reads a char of a quote or a set. The barred ones stand there by an
// escape alone.
func (r *reader) char(barred string) (rune, bool) {
	if r.peek() == '\\' {
		return r.escape()
	}
	c, width := utf8.DecodeRuneInString(r.source[r.at:])
	// U+FFFD itself is three bytes wide; what is less is no rune, or the end.
	noRune := c == utf8.RuneError && width <= 1
	if noRune || strings.ContainsRune(barred, c) {
		return 0, r.fail(r.at, api.ErrForm)
	}
	r.at += width
	return c, true
}

func (r *reader) escape() (rune, bool) {
	c, width := escaped(r.source[r.at+1:])
	if width == 0 {
		return 0, r.fail(r.at, api.ErrForm)
	}
	r.at += 1 + width
	return c, true
}

// escaped is the rune that is meant by what comes behind a "\", and how many
// bytes that has; none, if it is no escape.
func escaped(rest string) (rune, int) {
	if rest == "" {
		return 0, 0
	}
	switch rest[0] {
	case '\'', '\\', '[', ']', '-', '^':
		return rune(rest[0]), 1
	case 'n':
		return '\n', 1
	case 't':
		return '\t', 1
	case 'u':
		return numbered(rest)
	}
	return 0, 0
}

// numbered is the rune of a "u" and four digits.
func numbered(rest string) (rune, int) {
	const width = 5
	if len(rest) < width {
		return 0, 0
	}
	n, err := strconv.ParseUint(rest[1:width], 16, 16)
	if err != nil || !utf8.ValidRune(rune(n)) {
		return 0, 0
	}
	return rune(n), width
}

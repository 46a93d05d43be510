package rules

import (
	"strings"

	"seam/api"
	"seam/runes"
)

// reader reads a source from the left to the right. Outside of quotes and
// sets it stands where the next part begins: what may lie between two parts
// is behind it.
type reader struct {
	source string
	at     int
	depth  int // how many brackets are open
	names  map[string]*Expr
	rules  []*Expr
	place  int // of the fault, if there is one
	errno  api.Errno
}

// Read reads the rules of a source, or tells the first fault and its place.
// How large they are it does not look at.
func Read(source string) ([]*Expr, int, api.Errno) {
	r := reader{source: source, names: map[string]*Expr{}}
	r.skip()
	for r.at < len(source) {
		if !r.statement() {
			return nil, r.place, r.errno
		}
	}
	return r.rules, 0, api.OK
}

// fail answers false, for those that tell by it that they failed.
func (r *reader) fail(place int, errno api.Errno) bool {
	r.place, r.errno = place, errno
	return false
}

// peek is the byte that comes. At the end it is 0: that can stand nowhere
// outside of quotes and sets, just as the end.
func (r *reader) peek() byte {
	if r.at == len(r.source) {
		return 0
	}
	return r.source[r.at]
}

func (r *reader) skip() {
	for {
		switch r.peek() {
		case ' ', '\t', '\n':
			r.at++
		case '#':
			r.skipComment()
		default:
			return
		}
	}
}

func (r *reader) skipComment() {
	length := strings.IndexByte(r.source[r.at:], '\n')
	if length < 0 {
		length = len(r.source) - r.at
	}
	r.at += length
}

// step goes over a part of so many bytes, and what lies behind it.
func (r *reader) step(bytes int) {
	r.at += bytes
	r.skip()
}

func (r *reader) take(mark byte) bool {
	if r.peek() != mark {
		return false
	}
	r.step(1)
	return true
}

func (r *reader) expect(mark byte) bool {
	return r.take(mark) || r.fail(r.at, api.ErrForm)
}

func (r *reader) statement() bool {
	dollar := r.at
	if name := r.defineAhead(); name != "" {
		return r.define(dollar, name)
	}
	rule := r.expr()
	if rule == nil || !r.expect(';') {
		return false
	}
	r.rules = append(r.rules, rule)
	return true
}

// defineAhead goes over the head of a define, up to behind its "=", and
// answers the name. If no define comes it answers nothing and stays: only
// the "=" tells a define from a rule that begins with a name.
func (r *reader) defineAhead() string {
	start := r.at
	if r.peek() == '$' {
		name := r.name()
		r.step(1 + len(name))
		if name != "" && r.take('=') {
			return name
		}
	}
	r.at = start
	return ""
}

func (r *reader) define(dollar int, name string) bool {
	if r.names[name] != nil {
		return r.fail(dollar, api.ErrName)
	}
	expr := r.expr()
	if expr == nil || !r.expect(';') {
		return false
	}
	// Not before its end: a name can't be used in its own define.
	r.names[name] = expr
	return true
}

// name is the name right behind the "$" that comes; empty, if there is none.
func (r *reader) name() string {
	rest := r.source[r.at+1:]
	length := 0
	for length < len(rest) && 'a' <= rest[length] && rest[length] <= 'z' {
		length++
	}
	return rest[:length]
}

// expr and what it is made of answer nil if they failed.
func (r *reader) expr() *Expr {
	var seqs []*Expr
	for {
		seq := r.seq()
		if seq == nil {
			return nil
		}
		seqs = append(seqs, seq)
		if !r.take('|') {
			return join(Or, seqs)
		}
	}
}

func (r *reader) seq() *Expr {
	var items []*Expr
	for len(items) == 0 || r.atomAhead() {
		item := r.item()
		if item == nil {
			return nil
		}
		items = append(items, item)
	}
	return join(Seq, items)
}

func (r *reader) item() *Expr {
	atom := r.atom()
	switch {
	case atom == nil:
		return nil
	case r.take('*'):
		return repeat(Star, atom)
	case r.take('+'):
		return repeat(Plus, atom)
	case r.take('?'):
		return repeat(Maybe, atom)
	}
	return atom
}

func (r *reader) atomAhead() bool {
	switch r.peek() {
	case '(', '.', '$', '\'', '[':
		return true
	}
	return false
}

func (r *reader) atom() *Expr {
	switch r.peek() {
	case '(':
		return r.bracket()
	case '.':
		r.step(1)
		return one(runes.Except())
	case '$':
		return r.use()
	case '\'':
		return r.quote()
	case '[':
		return r.set()
	}
	r.fail(r.at, api.ErrForm)
	return nil
}

func (r *reader) bracket() *Expr {
	if r.depth == api.MaxDepth {
		r.fail(r.at, api.ErrDeep)
		return nil
	}
	r.depth++
	r.step(1)
	inner := r.expr()
	if inner == nil || !r.expect(')') {
		return nil
	}
	r.depth--
	return inner
}

func (r *reader) use() *Expr {
	name := r.name()
	if name == "" {
		r.fail(r.at, api.ErrForm)
		return nil
	}
	expr := r.names[name]
	if expr == nil {
		r.fail(r.at, api.ErrName)
		return nil
	}
	r.step(1 + len(name))
	return expr
}

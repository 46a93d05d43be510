// Package match finds the longest match of rules.
package match

import (
	"seam/rules"
	"seam/runes"
)

// Machine is rules as their places, with a name written out at each use. The
// places of a rule lie behind those of all rules ahead of it.
type Machine struct {
	places []place
	first  Bits // those with which a match may begin
}

type place struct {
	set    runes.Set
	rule   int
	last   bool // a match of the rule may end with it
	behind Bits // those that may come right behind it
}

// New makes the machine of some rules, which must not have more than
// api.MaxPlaces places.
func New(exprs []*rules.Expr) *Machine {
	m := &Machine{}
	for rule, e := range exprs {
		m.addRule(rule, e)
	}
	return m
}

// Places is how many places the rules have.
func (m *Machine) Places() int { return len(m.places) }

// Same tells whether no place has one of two runes and not the other.
func (m *Machine) Same(a, b rune) bool {
	for _, p := range m.places {
		if p.set.Has(a) != p.set.Has(b) {
			return false
		}
	}
	return true
}

func (m *Machine) addRule(rule int, e *rules.Expr) {
	start := len(m.places)
	ends := m.add(e)
	m.first = m.first.or(ends.first)
	for i := start; i < len(m.places); i++ {
		m.places[i].rule = rule
		m.places[i].last = ends.last.has(i)
	}
}

// ends tells of an expr what lies at the ends of its matches.
type ends struct {
	first, last Bits // the places with which they may begin, and end
	empty       bool // one of them has no unit at all
}

func (m *Machine) add(e *rules.Expr) ends {
	switch e.Kind {
	case rules.Place:
		return m.addPlace(e.Set)
	case rules.Seq:
		return m.addSeq(e.Parts)
	case rules.Or:
		return m.addOr(e.Parts)
	}
	return m.addRepeat(e.Kind, e.Parts[0])
}

func (m *Machine) addPlace(set runes.Set) ends {
	only := Bits{}.with(len(m.places))
	m.places = append(m.places, place{set: set})
	return ends{first: only, last: only}
}

func (m *Machine) addSeq(parts []*rules.Expr) ends {
	whole := ends{empty: true}
	for _, part := range parts {
		next := m.add(part)
		m.link(whole.last, next.first)
		if whole.empty {
			whole.first = whole.first.or(next.first)
		}
		if next.empty {
			next.last = next.last.or(whole.last)
		}
		whole.last = next.last
		whole.empty = whole.empty && next.empty
	}
	return whole
}

func (m *Machine) addOr(parts []*rules.Expr) ends {
	var whole ends
	for _, part := range parts {
		one := m.add(part)
		whole.first = whole.first.or(one.first)
		whole.last = whole.last.or(one.last)
		whole.empty = whole.empty || one.empty
	}
	return whole
}

func (m *Machine) addRepeat(kind rules.Kind, part *rules.Expr) ends {
	whole := m.add(part)
	if kind != rules.Maybe {
		m.link(whole.last, whole.first)
	}
	if kind != rules.Plus {
		whole.empty = true
	}
	return whole
}

// link lets each of the latter come right behind each of the former.
func (m *Machine) link(former, latter Bits) {
	for i := range m.places {
		if former.has(i) {
			m.places[i].behind = m.places[i].behind.or(latter)
		}
	}
}

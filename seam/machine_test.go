package seam_test

import (
	"strings"

	"seam/api"
)

// wanted is what Compile must answer, and of good rules the places: for each
// one what tells whether a number is in its set.
type wanted struct {
	place, count int
	errno        api.Errno
	sets         []func(rune) bool
}

// A machine takes a source unit by unit and keeps a state between two of
// them, so that Compile, which reads part by part, is held against something
// that can't look ahead.
type machine struct {
	state, back int
	depth       int
	atStart     bool
	dollar      int
	name        string
	defining    string
	names       map[string][]func(rune) bool
	sets        []func(rune) bool // of the rule or define that is read
	want        wanted

	others  bool
	dash    bool
	chars   int
	first   rune // of a part, if firstAt is not below 0
	firstAt int
	ranges  [][2]rune

	escapeAt int
	escape   string
}

const (
	mayBegin    = iota // a define or a rule may begin
	atItem             // an item must come
	behindAtom         // also a sign of repetition may come
	behindItem         // no such sign any more
	behindHead         // behind a name at the start: use or define
	inName             // behind the "$"
	inQuote            //
	behindBrace        // right behind a "["
	inSet              //
	inEscape           //
	inComment          //
)

const (
	noRune = -1 // a byte that is no part of a rune
	theEnd = -2
)

func wantCompile(source string) wanted {
	if len(source) > 2000 {
		return wanted{errno: api.ErrLong}
	}
	m := machine{names: map[string][]func(rune) bool{}}
	list, starts := wantUnits(source)
	for i, r := range list {
		if r == bad && !strings.HasPrefix(source[starts[i]:], "\xef\xbf\xbd") {
			r = noRune
		}
		if !m.feed(r, starts[i]) {
			return m.want
		}
	}
	if !m.feed(theEnd, len(source)) {
		return m.want
	}
	if m.want.count > 50 || len(m.want.sets) > 100 {
		return wanted{errno: api.ErrLarge}
	}
	return m.want
}

func (m *machine) fault(place int, errno api.Errno) bool {
	m.want = wanted{place: place, errno: errno}
	return false
}

func (m *machine) add(sets ...func(rune) bool) {
	m.sets = upTo101(append(m.sets, sets...))
}

func upTo101(sets []func(rune) bool) []func(rune) bool {
	return sets[:min(len(sets), 101)]
}

func (m *machine) feed(r rune, at int) bool {
	switch m.state {
	case inComment:
		if r == '\n' || r == theEnd {
			m.state = m.back
			return m.feed(r, at)
		}
		return true
	case inName:
		return m.feedName(r, at)
	case inQuote:
		return m.feedQuote(r, at)
	case behindBrace:
		m.state = inSet
		if r == '^' {
			m.others = true
			return true
		}
		return m.feedSet(r, at)
	case inSet:
		return m.feedSet(r, at)
	case inEscape:
		return m.feedEscape(r)
	}
	switch r {
	case ' ', 9, 10:
		return true
	case '#':
		m.back, m.state = m.state, inComment
		return true
	}
	return m.feedPart(r, at)
}

func (m *machine) feedPart(r rune, at int) bool {
	switch m.state {
	case mayBegin:
		if r == theEnd {
			return true
		}
		m.atStart = true
		return m.begin(r, at)
	case atItem:
		return m.begin(r, at)
	case behindHead:
		if r == '=' {
			if _, there := m.names[m.name]; there {
				return m.fault(m.dollar, api.ErrName)
			}
			m.defining, m.state = m.name, atItem
			return true
		}
		return m.use() && m.feed(r, at)
	case behindAtom:
		if r == '*' || r == '+' || r == '?' {
			m.state = behindItem
			return true
		}
	}
	switch {
	case r == '|':
		m.state = atItem
	case r == ')' && m.depth > 0:
		m.depth--
		m.state = behindAtom
	case r == ';' && m.depth == 0:
		m.finish()
	default:
		return m.begin(r, at)
	}
	return true
}

func (m *machine) finish() {
	if m.defining != "" {
		m.names[m.defining] = m.sets
	} else {
		m.want.count++
		m.want.sets = upTo101(append(m.want.sets, m.sets...))
	}
	m.defining, m.sets, m.state = "", nil, mayBegin
}

func (m *machine) begin(r rune, at int) bool {
	start := m.atStart
	m.atStart = false
	switch r {
	case '(':
		if m.depth == 40 {
			return m.fault(at, api.ErrDeep)
		}
		m.depth++
		m.state = atItem
	case '.':
		m.add(func(rune) bool { return true })
		m.state = behindAtom
	case '$':
		m.atStart, m.dollar, m.name, m.state = start, at, "", inName
	case '\'':
		m.chars, m.state = 0, inQuote
	case '[':
		m.others, m.dash, m.firstAt, m.ranges, m.state = false, false, -1, nil, behindBrace
	default:
		return m.fault(at, api.ErrForm)
	}
	return true
}

func (m *machine) use() bool {
	sets, there := m.names[m.name]
	if !there {
		return m.fault(m.dollar, api.ErrName)
	}
	m.add(sets...)
	m.state = behindAtom
	return true
}

func (m *machine) feedName(r rune, at int) bool {
	if r >= 'a' && r <= 'z' {
		m.name += string(r)
		return true
	}
	if m.name == "" {
		return m.fault(m.dollar, api.ErrForm)
	}
	start := m.atStart
	m.atStart = false
	if start {
		m.state = behindHead
		return m.feed(r, at)
	}
	return m.use() && m.feed(r, at)
}

func (m *machine) feedQuote(r rune, at int) bool {
	switch {
	case r == '\\':
		m.back, m.escapeAt, m.escape, m.state = inQuote, at, "", inEscape
	case r < 0 || r == '\'' && m.chars == 0:
		return m.fault(at, api.ErrForm)
	case r == '\'':
		m.state = behindAtom
	default:
		return m.char(r, at)
	}
	return true
}

func (m *machine) feedSet(r rune, at int) bool {
	switch {
	case r == '\\':
		m.back, m.escapeAt, m.escape, m.state = inSet, at, "", inEscape
	case r < 0 || r == ']' && m.dash || r == '-' && (m.dash || m.firstAt < 0):
		return m.fault(at, api.ErrForm)
	case r == '-':
		m.dash = true
	case r == ']':
		m.endSingle()
		m.add(setOf(m.others, m.ranges))
		m.state = behindAtom
	default:
		return m.char(r, at)
	}
	return true
}

func (m *machine) endSingle() {
	if m.firstAt >= 0 {
		m.ranges = append(m.ranges, [2]rune{m.first, m.first})
	}
	m.firstAt = -1
}

func (m *machine) char(r rune, at int) bool {
	if m.state == inQuote {
		m.chars++
		m.add(setOf(false, [][2]rune{{r, r}}))
		return true
	}
	if !m.dash {
		m.endSingle()
		m.first, m.firstAt = r, at
		return true
	}
	if r < m.first {
		return m.fault(m.firstAt, api.ErrRange)
	}
	m.ranges = append(m.ranges, [2]rune{m.first, r})
	m.firstAt, m.dash = -1, false
	return true
}

func (m *machine) feedEscape(r rune) bool {
	kind := m.escape == ""
	switch {
	case kind && r == 'n':
		return m.escaped(10)
	case kind && r == 't':
		return m.escaped(9)
	case kind && r > 0 && strings.ContainsRune(`'\[]-^`, r):
		return m.escaped(r)
	case kind && r == 'u':
		m.escape = "u"
		return true
	case !kind && r > 0 && strings.ContainsRune("0123456789abcdefABCDEF", r):
		m.escape += strings.ToLower(string(r))
	default:
		return m.fault(m.escapeAt, api.ErrForm)
	}
	if len(m.escape) < 5 {
		return true
	}
	var c rune
	for _, digit := range m.escape[1:] {
		c = c*16 + rune(strings.IndexRune("0123456789abcdef", digit))
	}
	if c >= 0xD800 && c <= 0xDFFF {
		return m.fault(m.escapeAt, api.ErrForm)
	}
	return m.escaped(c)
}

func (m *machine) escaped(c rune) bool {
	m.state = m.back
	return m.char(c, m.escapeAt)
}

func setOf(others bool, ranges [][2]rune) func(rune) bool {
	return func(r rune) bool {
		if r < 0 || r > 0x10FFFF || r >= 0xD800 && r <= 0xDFFF {
			return others
		}
		for _, g := range ranges {
			if g[0] <= r && r <= g[1] {
				return !others
			}
		}
		return others
	}
}

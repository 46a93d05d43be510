package seam_test

import (
	"fmt"
	"regexp"
	"slices"
	"strings"
	"testing"
	"unicode/utf8"

	"seam/api"
	"seam/seam"
)

// A translator writes rules as regular expressions of Go's library, piece by
// piece, with each name written out, so that matches are held against a
// matcher that was made by others. The source must be right.
type translator struct {
	rest  string
	names map[string]string
	out   string // of the rule or define that is read
	name  string // that is defined
	rules []*regexp.Regexp
}

const anyRune = `\x{0}-\x{10FFFF}`

func translated(source string) []*regexp.Regexp {
	tr := translator{rest: source, names: map[string]string{}}
	for tr.rest != "" {
		tr.piece()
	}
	return tr.rules
}

func (tr *translator) piece() {
	c := tr.rest[0]
	switch c {
	case ' ', '\t', '\n':
		tr.rest = tr.rest[1:]
		return
	case '#':
		_, tr.rest, _ = strings.Cut(tr.rest, "\n")
		return
	}
	tr.rest = tr.rest[1:]
	switch c {
	case '$':
		tr.dollar()
	case '=':
		// By then it is known that this is a define.
	case ';':
		tr.end()
	case '\'':
		tr.quote()
	case '[':
		tr.set()
	case '.':
		tr.out += "[" + anyRune + "]"
	case '(':
		tr.out += "(?:"
	default:
		tr.out += string(rune(c))
	}
}

// dollar takes a name that is not known for one that is defined: elsewhere
// it would be a fault.
func (tr *translator) dollar() {
	behind := strings.TrimLeft(tr.rest, "abcdefghijklmnopqrstuvwxyz")
	name := strings.TrimSuffix(tr.rest, behind)
	tr.rest = behind
	if expr, known := tr.names[name]; known {
		tr.out += "(?:" + expr + ")"
	} else {
		tr.name = name
	}
}

func (tr *translator) end() {
	if tr.name != "" {
		tr.names[tr.name] = tr.out
	} else {
		re := regexp.MustCompile(`\A(?:` + tr.out + `)`)
		re.Longest()
		tr.rules = append(tr.rules, re)
	}
	tr.out, tr.name = "", ""
}

// char is the next char of a quote or set, as a regular expression has it.
func (tr *translator) char() string {
	r, width := utf8.DecodeRuneInString(tr.rest)
	if r == '\\' {
		r, width = rune(tr.rest[1]), 2
		switch r {
		case 'n':
			r = 10
		case 't':
			r = 9
		case 'u':
			fmt.Sscanf(tr.rest[2:6], "%x", &r)
			width = 6
		}
	}
	tr.rest = tr.rest[width:]
	return fmt.Sprintf(`\x{%X}`, r)
}

func (tr *translator) quote() {
	tr.out += "(?:"
	for tr.rest[0] != '\'' {
		tr.out += tr.char()
	}
	tr.out += ")"
	tr.rest = tr.rest[1:]
}

func (tr *translator) set() {
	others := tr.rest[0] == '^'
	tr.rest = strings.TrimPrefix(tr.rest, "^")
	parts := ""
	for tr.rest[0] != ']' {
		if tr.rest[0] == '-' {
			parts += "-"
			tr.rest = tr.rest[1:]
		}
		parts += tr.char()
	}
	tr.rest = tr.rest[1:]
	// An empty set can't be written as such.
	if parts == "" {
		parts, others = anyRune, !others
	}
	if others {
		parts = "^" + parts
	}
	tr.out += "[" + parts + "]"
}

// wantMatch is the match at the beginning of a unit.
func wantMatch(rules []*regexp.Regexp, text string, from int) api.Segment {
	want := api.Segment{From: from, To: from, Rule: -1}
	for i, re := range rules {
		if found := re.FindStringIndex(text[from:]); found != nil && from+found[1] > want.To {
			want.To, want.Rule = from+found[1], i
		}
	}
	return want
}

func wantCut(rules []*regexp.Regexp, text string) []api.Segment {
	var want []api.Segment
	for from := 0; from < len(text); {
		s := wantMatch(rules, text, from)
		if s.Rule == -1 {
			_, width := wantUnit(text[from:])
			s.To += width
		}
		want = append(want, s)
		from = s.To
	}
	return want
}

// checkText holds Cut of a text, and Match at each of its places, against
// the oracle.
func checkText(t *testing.T, source string, r *seam.Rules, rules []*regexp.Regexp, text string) {
	t.Helper()
	want := wantCut(rules, text)
	if got, e := r.Cut(text); !slices.Equal(got, want) || e != api.OK {
		t.Errorf("by %q Cut(%q) = %v, %d, want %v, 0", source, text, got, e, want)
	}
	_, starts := wantUnits(text)
	starts = append(starts, len(text))
	for i, start := range starts {
		want := wantMatch(rules, text, start)
		behind := start + 1
		if i < len(starts)-1 {
			behind = starts[i+1]
		}
		for at := start; at < behind; at++ {
			checkMatch(t, source, r, text, at, want)
		}
	}
}

func checkMatch(t *testing.T, source string, r *seam.Rules, text string, at int, want api.Segment) {
	t.Helper()
	if got, e := r.Match(text, at); got != want || e != api.OK {
		t.Errorf("by %q Match(%q, %d) = %v, %d, want %v, 0", source, text, at, got, e, want)
	}
}

func checkTexts(t *testing.T, source string, texts ...string) {
	t.Helper()
	r, rules := compiled(t, source), translated(source)
	for _, text := range texts {
		checkText(t, source, r, rules, text)
	}
}

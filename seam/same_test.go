package seam_test

import (
	"math"
	"math/rand"
	"testing"
)

// askedRunes are runes and numbers that are none, at the edges of what
// tests put into sets.
var askedRunes = []rune{math.MinInt32, -0x10FFFF, -1, 0, 9, 10, ' ', '!', '\'', '-', '.', '0', 'A', 'Z', '[', '\\', ']', '^', 'a', 'b', 'm', 'z', '{', 0x7F, 0x80, 0xE9, 0xFF, 0x100, 0x4E16, 0xD7FF, 0xD800, 0xDBFF, 0xDC00, 0xDFFF, 0xE000, 0xFFFC, 0xFFFD, 0xFFFE, 0xFFFF, 0x10000, 0x1F600, 0x10FFFE, 0x10FFFF, 0x110000, 0x1FFFFF, math.MaxInt32}

func wantSame(sets []func(rune) bool, a, b rune) bool {
	for _, has := range sets {
		if has(a) != has(b) {
			return false
		}
	}
	return true
}

func TestP5CountAndPlaces(t *testing.T) {
	checkRules(t, "", 0, 0)
	checkRules(t, "$a='xyz';", 0, 0)
	checkRules(t, "$a='xyz';.;", 1, 1)
	checkRules(t, "$a='xyz';$a;$a$a;", 2, 9)
	checkRules(t, "'a';'a';'a';", 3, 3)
	checkRules(t, "[];[];", 2, 2)
	checkRules(t, "('ab'|[^])*.+;", 1, 4)
	checkRules(t, "'\\u0041\\n';", 1, 2)
	checkRules(t, "'\u4e16';", 1, 1)
	r := compiled(t, "'ab';.;")
	for range 3 {
		if r.Count() != 2 || r.Places() != 3 {
			t.Errorf("asked again: %d rules, %d places, want 2, 3", r.Count(), r.Places())
		}
	}
}

// groups are numbers that the rules can't tell apart within a group, and can
// between any two groups.
func checkGroups(t *testing.T, source string, groups ...[]rune) {
	t.Helper()
	r := compiled(t, source)
	for i, left := range groups {
		for j, right := range groups {
			for _, a := range left {
				for _, b := range right {
					if r.Same(a, b) != (i == j) {
						t.Errorf("of %q: Same(%x, %x) is %v", source, a, b, i != j)
					}
				}
			}
		}
	}
}

var noRunes = []rune{math.MinInt32, -2, -1, 0xD800, 0xDABC, 0xDFFF, 0x110000, 1 << 30, math.MaxInt32}

func with(list []rune, more ...rune) []rune { return append(more, list...) }

func TestP5RangesAndTheirEdges(t *testing.T) {
	checkGroups(t, "[b-y];", []rune{'b', 'c', 'm', 'x', 'y'}, with(noRunes, 0, 'a', 'z', 'B', 0x10FFFF))
	checkGroups(t, "[^b-y];", []rune{'b', 'c', 'm', 'x', 'y'}, with(noRunes, 0, 'a', 'z', 'B', 0x10FFFF))
	checkGroups(t, "'q';", []rune{'q'}, with(noRunes, 'p', 'r', 'Q'))
	checkGroups(t, "[q-q];", []rune{'q'}, with(noRunes, 'p', 'r'))
	checkGroups(t, "[bdf];", []rune{'b', 'd', 'f'}, with(noRunes, 'a', 'c', 'e', 'g'))
	checkGroups(t, "[f-hb-d];", []rune{'b', 'c', 'd', 'f', 'g', 'h'}, with(noRunes, 'a', 'e', 'i'))
	checkGroups(t, "[b-fd-hc];", []rune{'b', 'c', 'd', 'e', 'f', 'g', 'h'}, with(noRunes, 'a', 'i'))
	checkGroups(t, "[b-f];[d-h];", []rune{'b', 'c'}, []rune{'d', 'e', 'f'}, []rune{'g', 'h'}, with(noRunes, 'a', 'i'))
	checkGroups(t, "[b-f] [^d-h];", []rune{'b', 'c'}, []rune{'d', 'e', 'f'}, []rune{'g', 'h'}, with(noRunes, 'a', 'i'))
	checkGroups(t, "[\u00e9-\u4e16];", []rune{0xE9, 0x100, 0x4E15, 0x4E16}, with(noRunes, 0xE8, 0x4E17))
	checkGroups(t, "[\U0001F600-\U0010FFFF];", []rune{0x1F600, 0x10FFFE, 0x10FFFF}, with(noRunes, 0x1F5FF, 0xFFFF))
	checkGroups(t, "[\\u0000];", []rune{0}, with(noRunes, 1))
	checkGroups(t, "[\\uffff];", []rune{0xFFFF}, with(noRunes, 0xFFFE, 0x10000))
	checkGroups(t, "[\\ufffd];", []rune{0xFFFD}, with(noRunes, 0xFFFC, 0xFFFE))
}

func TestP5EveryRune(t *testing.T) {
	all := with(noRunes, 0, 'a', 0xFFFD, 0x10FFFF)
	checkGroups(t, ".;", all)
	checkGroups(t, "[];", all)
	checkGroups(t, "[^];", all)
	checkGroups(t, "[]*.[^];.;", all)
	checkGroups(t, "", all)
	checkGroups(t, "$x='a';", all)
	checkGroups(t, "$x='a';.;", all)
	checkGroups(t, "[]'a';", []rune{'a'}, with(noRunes, 'b'))
}

func TestP5NumbersThatAreNoRunes(t *testing.T) {
	checkGroups(t, "[\\u0000-\\uffff];", []rune{0, 'a', 0xD7FF, 0xE000, 0xFFFF}, with(noRunes, 0x10000, 0x10FFFF))
	checkGroups(t, "[^\\u0000-\\uffff];", []rune{0, 'a', 0xD7FF, 0xE000, 0xFFFF}, with(noRunes, 0x10000, 0x10FFFF))
	checkGroups(t, "[\x00-\U0010FFFF];", []rune{0, 'a', 0xD7FF, 0xE000, 0x10FFFF}, noRunes)
	checkGroups(t, "[^\x00-\U0010FFFF];", []rune{0, 'a', 0xD7FF, 0xE000, 0x10FFFF}, noRunes)
	checkGroups(t, "[\ud7ff-\ue000];", []rune{0xD7FF, 0xE000}, with(noRunes, 0xD7FE, 0xE001))
	checkGroups(t, "[\ud7ff\ue000];[^\ud7ff-\ue000];", []rune{0xD7FF, 0xE000}, with(noRunes, 0xD7FE, 0xE001))
}

func TestP5OnlyPlacesOfRulesCount(t *testing.T) {
	checkGroups(t, "$v='x';[a-z];", []rune{'a', 'x', 'z'}, with(noRunes, 'A'))
	checkGroups(t, "$v='x';[a-z];$v;", []rune{'a', 'y'}, []rune{'x'}, with(noRunes, 'A'))
	checkGroups(t, "$v='x';$w=$v;[a-z]|($w);", []rune{'a', 'y'}, []rune{'x'}, with(noRunes, 'A'))
	checkGroups(t, "('a'|('b'|'c'*)+)?;", []rune{'a'}, []rune{'b'}, []rune{'c'}, with(noRunes, 'd'))
	checkGroups(t, "'abc';", []rune{'a'}, []rune{'b'}, []rune{'c'}, with(noRunes, 'd'))
	checkGroups(t, "'a';'b';'c';", []rune{'a'}, []rune{'b'}, []rune{'c'}, with(noRunes, 'd'))
}

func TestP5RunesNearEachRange(t *testing.T) {
	random := rand.New(rand.NewSource(6))
	for range 300 {
		w := writer{Rand: random}
		source := w.source(1 + random.Intn(4))
		want := wantCompile(source)
		if want.errno != 0 {
			continue
		}
		r := compiled(t, source)
		for range 300 {
			a := askedRunes[random.Intn(len(askedRunes))] + rune(random.Intn(5)-2)
			b := rune(random.Uint32())
			if random.Intn(2) == 0 {
				b = rune(random.Intn(0x110000))
			}
			if r.Same(a, b) != wantSame(want.sets, a, b) || r.Same(b, a) != wantSame(want.sets, a, b) {
				t.Errorf("of %q: Same(%x, %x) is not %v", source, a, b, wantSame(want.sets, a, b))
			}
		}
	}
}

func TestP2RulesDoNotMeddle(t *testing.T) {
	digits := compiled(t, "[0-9];")
	letters := compiled(t, "$x=[a-z];$x;")
	compiled(t, "$x=[0a];$x$x;")
	for range 2 {
		if !digits.Same('0', '9') || digits.Same('0', 'a') || !digits.Same('a', 'b') {
			t.Error("the rules for digits answer for others")
		}
		if !letters.Same('a', 'z') || letters.Same('0', 'a') || !letters.Same('0', '1') {
			t.Error("the rules for letters answer for others")
		}
	}
}

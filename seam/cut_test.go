package seam_test

import (
	"fmt"
	"math/rand"
	"slices"
	"strings"
	"sync"
	"testing"

	"seam/api"
	"seam/seam"
)

// pieces writes segments down: what each has of the text, and its rule.
func pieces(text string, segments []api.Segment) string {
	var out []string
	for _, s := range segments {
		out = append(out, fmt.Sprintf("%s:%d", text[s.From:s.To], s.Rule))
	}
	return strings.Join(out, " ")
}

// checkPieces checks a Cut, and that its segments lie one behind the other.
func checkPieces(t *testing.T, source, text, want string) {
	t.Helper()
	got := cut(t, compiled(t, source), text)
	if pieces(text, got) != want {
		t.Errorf("by %q Cut(%q) = %v, want %q", source, text, got, want)
	}
	checkTexts(t, source, text)
}

// cut is a Cut whose segments are the text, and none of them empty.
func cut(t *testing.T, r *seam.Rules, text string) []api.Segment {
	t.Helper()
	segments, e := r.Cut(text)
	at := 0
	for _, s := range segments {
		if s.From != at || s.To <= s.From || s.To > len(text) || s.Rule < -1 || s.Rule >= r.Count() {
			t.Fatalf("Cut(%q) = %v", text, segments)
		}
		at = s.To
	}
	if at != len(text) || e != api.OK {
		t.Fatalf("Cut(%q) = %v, %d", text, segments, e)
	}
	return segments
}

func TestP7DocumentExamples(t *testing.T) {
	const numbers = "[a-z]+ ; [0-9]+ ('.' [0-9]+)? ; # numbers"
	checkPieces(t, numbers, "ab12.5.c", "ab:0 12.5:1 .:-1 c:0")
	checkMatch(t, numbers, compiled(t, numbers), "ab12.5.c", 3, api.Segment{From: 3, To: 6, Rule: 1})
	checkPieces(t, "$w = [a-z]; $w+; $w 'x'* ;", "axx", "axx:0")
	checkPieces(t, "", "ab\u00e9\xff", "a:-1 b:-1 \u00e9:-1 \xff:-1")
}

func TestP7OrdinaryTexts(t *testing.T) {
	const line = "[^\\n]* '\\n'; [^\\n]+;"
	checkPieces(t, line, "ab\n\ncd", "ab\n:0 \n:0 cd:1")
	checkPieces(t, line, "ab\ncd\n", "ab\n:0 cd\n:0")
	const words = "[a-zA-Z]+; [ \\t]+; [0-9]+;"
	checkPieces(t, words, "It is 10  o'clock", "It:0  :1 is:0  :1 10:2   :1 o:0 ':-1 clock:0")
	checkPieces(t, words, "--", "-:-1 -:-1")
	checkPieces(t, "'ab' | 'abc' 'd'; 'c';", "abcabcd", "ab:0 c:1 abcd:0")
	checkPieces(t, "'aaa'|'a';'aa';", "aaaaa", "aaa:0 aa:1")
	checkPieces(t, "'a'*;", "aabaa", "aa:0 b:-1 aa:0")
	checkPieces(t, "'a'*'b';", "aaac", "a:-1 a:-1 a:-1 c:-1")
	checkPieces(t, "'a'*'b';", "aaacab", "a:-1 a:-1 a:-1 c:-1 ab:0")
	checkPieces(t, ".*;", "a\nb\xff", "a\nb\xff:0")
	checkPieces(t, ".;", "a\xff\u4e16", "a:0 \xff:0 \u4e16:0")
	checkPieces(t, "..;", "abcde", "ab:0 cd:0 e:-1")
	checkPieces(t, "'\r\n';'\r';'\n';", "\r\n\n\r\r\n", "\r\n:0 \n:2 \r:1 \r\n:0")
	checkPieces(t, "'\\u00e9';", "\u00e9e\u0301", "\u00e9:0 e:-1 \u0301:-1")
}

func TestP7UnitsThatNoRuleMatches(t *testing.T) {
	for _, source := range []string{"", "[];", "'q';", "'q'*;", "[]*[]?;", "'ax';", "$x=.;", ".'q';", "'\u4e16q'|'\u00e9q';"} {
		r := compiled(t, source)
		for _, text := range append(noText, "", "a", "aa", "ab\u00e9\u4e16\U0001F600", "\ufffd\xff\ufffd", "\u4e16\u4e16", "\x00\x00", strings.Repeat("\u4e16", 333), strings.Repeat("\x80", 1000)) {
			got := cut(t, r, text)
			_, starts := wantUnits(text)
			if len(got) != len(starts) {
				t.Errorf("by %q Cut(%q): %d segments, want %d", source, text, len(got), len(starts))
				continue
			}
			for i, s := range got {
				if s.From != starts[i] || s.Rule != -1 {
					t.Errorf("by %q Cut(%q): %v, want from %d by none", source, text, s, starts[i])
				}
			}
		}
	}
}

func TestP7EmptyText(t *testing.T) {
	for _, source := range []string{"", ".;", ".*;", "'a'*;'b'?;", "[];", "[]*;"} {
		if l, e := compiled(t, source).Cut(""); len(l) != 0 || e != api.OK {
			t.Errorf("by %q Cut of nothing = %v, %d, want none, 0", source, l, e)
		}
	}
}

func TestP7LongTexts(t *testing.T) {
	for _, source := range []string{"", "'a'+;", "'a';", "'aa';", "'aaa';", ".*'b';", "'a'*;", ".*;", "[^\\ufffd]+;", "'\u00e9'*;.;"} {
		r, rules := compiled(t, source), translated(source)
		for _, piece := range []string{"a", "ab", "\u00e9", "\U0001F600", "\xff", "aaaaaaa\xff", "\u4e16ab", "\ufffd\xff"} {
			text := strings.Repeat(piece, 1000)[:1000]
			if got, want := cut(t, r, text), wantCut(rules, text); !slices.Equal(got, want) {
				t.Errorf("by %q Cut of 1000 bytes of %q = %v, want %v", source, piece, got, want)
			}
			checkTooLong(t, r, strings.Repeat(piece, 1001)[:1001])
			checkTooLong(t, r, strings.Repeat(piece, 1001))
		}
	}
}

// Each segment by a rule is the Match where it begins; where Match has none
// there is a single unit.
func TestP7SegmentsAreMatches(t *testing.T) {
	random := rand.New(rand.NewSource(8))
	for range 300 {
		r := compiled(t, ruleAtRandom(random))
		text := textAtRandom(random, 30)
		for _, s := range cut(t, r, text) {
			want, e := r.Match(text, s.From)
			if want.Rule == -1 {
				_, width := wantUnit(text[s.From:])
				want.To += width
			}
			if s != want || e != api.OK {
				t.Errorf("segment %v of %q, want %v", s, text, want)
			}
		}
	}
}

// ruleAtRandom is a source that is right, of few letters, or of any runes.
func ruleAtRandom(random *rand.Rand) string {
	for {
		w := writer{Rand: random}
		source := w.source(1 + random.Intn(5))
		if random.Intn(2) == 0 {
			source = fewLetters(random, 1+random.Intn(3))
		}
		if wantCompile(source).errno == api.OK {
			return source
		}
	}
}

// fewLetters are rules whose parts often match the same.
func fewLetters(random *rand.Rand, count int) string {
	var expr func(depth int) string
	expr = func(depth int) string {
		kind := random.Intn(8)
		if depth == 0 {
			kind = random.Intn(5)
		}
		switch sign := signs[random.Intn(4)]; kind {
		case 0:
			return []string{".", "[]", "[^a]", "[ab]", "[^]"}[random.Intn(5)] + sign
		case 1, 2, 3, 4:
			return []string{"'a'", "'b'", "'ab'", "'aba'", "[bc]", "'\ufffd'", "[\u00e9c]"}[random.Intn(7)] + sign
		case 5:
			return "(" + expr(depth-1) + "|" + expr(depth-1) + ")" + sign
		default:
			return "(" + expr(depth-1) + " " + expr(depth-1) + ")" + sign
		}
	}
	source := ""
	for range count {
		source += expr(4) + ";"
	}
	return source
}

// textAtRandom is a text of few units that rules at random often have.
func textAtRandom(random *rand.Rand, most int) string {
	var text strings.Builder
	for range random.Intn(most + 1) {
		switch random.Intn(12) {
		case 0:
			text.WriteString(noText[random.Intn(len(noText))])
		case 1, 2:
			text.WriteRune(askedRunes[random.Intn(len(askedRunes))])
		case 3:
			text.WriteString(escapes[random.Intn(len(escapes))].written[1:])
		default:
			text.WriteString([]string{"a", "b", "ab", "c", "\u00e9", "\ufffd", "aba"}[random.Intn(7)])
		}
	}
	return text.String()
}

func TestP7RulesAndTextsAtRandom(t *testing.T) {
	random := rand.New(rand.NewSource(9))
	for range 3000 {
		source := ruleAtRandom(random)
		var texts []string
		for range 8 {
			texts = append(texts, textAtRandom(random, 12))
		}
		checkTexts(t, source, texts...)
	}
}

func TestP2CutsWrittenOver(t *testing.T) {
	r := compiled(t, "[a-z]+;'\u00e9';")
	rules := translated("[a-z]+;'\u00e9';")
	var lists [][]api.Segment
	for range 3 {
		for _, text := range memoryTexts {
			l := cut(t, r, text)
			fill(l, api.Segment{From: -7, To: 77, Rule: 777})
			if again := cut(t, r, text); !slices.Equal(again, wantCut(rules, text)) {
				t.Errorf("Cut(%q) behind what was written: %v", text, again)
			}
			lists = append(lists, l)
		}
	}
	mark := func(i int) api.Segment { return api.Segment{From: i, To: -i, Rule: i} }
	for i, l := range lists {
		fill(l, mark(i))
	}
	for i, l := range lists {
		checkFilled(t, l, mark(i))
	}
}

// A call that is asked of rules, written so that its answer can be compared.
type call func(r *seam.Rules) string

func someCalls(texts ...string) []call {
	var calls []call
	for _, text := range texts {
		calls = append(calls, func(r *seam.Rules) string {
			l, e := r.Cut(text)
			return fmt.Sprint(l, e)
		}, func(r *seam.Rules) string {
			c, e := r.Over(text)
			return fmt.Sprint(forwards(c), backwards(c), c.Following(len(text)/2), c.Preceding(len(text)/2), c.IsBoundary(1), e)
		})
		for at := -1; at <= len(text)+1; at++ {
			calls = append(calls, func(r *seam.Rules) string {
				s, e := r.Match(text, at)
				return fmt.Sprint(s, e)
			})
		}
	}
	return append(calls, func(r *seam.Rules) string {
		return fmt.Sprint(r.Count(), r.Places(), r.Same('a', 'b'), r.Same('a', 'c'))
	}, func(r *seam.Rules) string {
		return r.Pack()
	})
}

func TestP2AskedInAnotherOrder(t *testing.T) {
	random := rand.New(rand.NewSource(10))
	calls := someCalls("", "aab", "abc\u00e9", "ba\xffba", "cab\ufffdc", strings.Repeat("ab", 20), strings.Repeat("a", 30))
	for range 30 {
		source := ruleAtRandom(random)
		r := compiled(t, source)
		for _, i := range random.Perm(len(calls)) {
			want := calls[i](compiled(t, source))
			if got := calls[i](r); got != want {
				t.Errorf("by %q: call %d answers %s, want %s", source, i, got, want)
			}
		}
	}
}

func TestP2FaultsAheadDoNotMatter(t *testing.T) {
	const source = "[a-z]+;[0-9]+;"
	r := compiled(t, source)
	for range 3 {
		checkTooLong(t, r, strings.Repeat("ab1", 400))
		checkText(t, source, r, translated(source), "ab1")
	}
}

func TestP2TwoRulesDoNotMeddle(t *testing.T) {
	a, b := compiled(t, "'a'+;"), compiled(t, "'b'+;'a';")
	for range 3 {
		if got := pieces("aabb", cut(t, a, "aabb")); got != "aa:0 b:-1 b:-1" {
			t.Errorf("by the first: %s", got)
		}
		if got := pieces("aabb", cut(t, b, "aabb")); got != "a:1 a:1 bb:0" {
			t.Errorf("by the second: %s", got)
		}
	}
}

func TestP2AskedAtTheSameTime(t *testing.T) {
	const source = "('a'|'b')*'abb';[a-c]+'d'?;"
	r := compiled(t, source)
	calls := someCalls("abbabbc", "cabdab", strings.Repeat("abbd", 30))
	var group sync.WaitGroup
	for range 8 {
		group.Go(func() {
			for i, c := range calls {
				if got, want := c(r), c(compiled(t, source)); got != want {
					t.Errorf("call %d answers %s, want %s", i, got, want)
				}
			}
		})
	}
	group.Wait()
}

// Rules of a row match the same.
func TestP10RulesThatMatchTheSame(t *testing.T) {
	texts := words("abc", 5)
	for _, row := range [][]string{
		{"'a'+;", "'a''a'*;", "'a'*'a';", "('a'+)+;", "('a'|'aa')+;", "('a'*)+;", "('a'?)*;", "'a'*;", "$x='a';$x+;", "[a]+;", "[a-a]+;"},
		{"('a'|'b')+;", "[ab]+;", "('a'*'b'*)*;", "('b'|'a')*;", "'a'+|('a'*'b'+)+'a'*;"},
		{"'ab'|'ac';", "'a'('b'|'c');", "'a'[bc];", "'a'[cb];", "'ac'|'ab'|'ac';", "$x='a';$x'b'|$x'c';"},
		{"'a'?'b';", "'b'|'ab';", "('a'|[]*)'b';"},
		{"[^a];", "[^a]|[bc];", "[^aa]?;"},
		{".;", "[^];", "[^a]|'a';", ".?;"},
		{"'a''b'*'c'?;[bc];", "'a'('b'+)?('c'|[]?);'c'|'b';", "'a''b'*|'a''b'*'c';[b-c];"},
		{"", "$x=.;", "#"}, {"[];", "[]*;", "[]+'a';"},
	} {
		first := compiled(t, row[0])
		for _, source := range row[1:] {
			r := compiled(t, source)
			for _, text := range texts {
				want := cut(t, first, text)
				if got := cut(t, r, text); !slices.Equal(got, want) {
					t.Errorf("by %q Cut(%q) = %v, by %q %v", source, text, got, row[0], want)
				}
				if got := forwards(over(t, r, text)); !slices.Equal(got, boundaries(want)) {
					t.Errorf("by %q the boundaries of %q are %v, by %q %v", source, text, got, row[0], boundaries(want))
				}
			}
		}
	}
}

// exchanged puts other units for those of a text, which are the Same and as
// wide.
func exchanged(random *rand.Rand, r *seam.Rules, text string) string {
	// None of these bytes is part of any rune, whatever stands beside it.
	pool := []string{"\xff", "\xfe", "\xc0"}
	for _, c := range askedRunes {
		pool = append(pool, string(c))
	}
	var out strings.Builder
	runes, starts := wantUnits(text)
	starts = append(starts, len(text))
	for i, unit := range runes {
		old := text[starts[i]:starts[i+1]]
		if s := pool[random.Intn(len(pool))]; len(s) == len(old) {
			if other, _ := wantUnit(s); r.Same(unit, other) {
				old = s
			}
		}
		out.WriteString(old)
	}
	return out.String()
}

func TestP10UnitsThatAreTheSame(t *testing.T) {
	random := rand.New(rand.NewSource(11))
	changed := 0
	for range 1000 {
		source := ruleAtRandom(random)
		r := compiled(t, source)
		text := textAtRandom(random, 20)
		for range 5 {
			other := exchanged(random, r, text)
			if len(other) != len(text) || !slices.Equal(cut(t, r, other), cut(t, r, text)) {
				t.Errorf("by %q: %v of %q, but %v of %q", source, cut(t, r, text), text, cut(t, r, other), other)
			}
			if other != text {
				changed++
			}
		}
	}
	if changed < 1000 {
		t.Errorf("only %d texts were changed", changed)
	}
}

func FuzzCut(f *testing.F) {
	f.Add("[a-z]+ ; [0-9]+ ('.' [0-9]+)? ; # numbers", "ab12.5.c", 3)
	f.Add("$w = [a-z]; $w+; $w 'x'* ;", "axx", -1)
	f.Add("(('a'*)*|[^\\u0041-\u4e16]?)+ . ;", "aa\xff\u00e9", 1<<62)
	f.Add("", strings.Repeat("a", 1001), 0)
	random := rand.New(rand.NewSource(12))
	for range 20 {
		f.Add(ruleAtRandom(random), textAtRandom(random, 20), random.Intn(20))
	}
	f.Fuzz(func(t *testing.T, source, text string, at int) {
		if wantCompile(source).errno != api.OK {
			return
		}
		r := compiled(t, source)
		if len(text) > 1000 {
			checkTooLong(t, r, text)
			return
		}
		rules := translated(source)
		if len(text) <= 100 {
			checkText(t, source, r, rules, text)
		}
		from := 0
		_, starts := wantUnits(text)
		for _, start := range append(starts, len(text)) {
			if start <= at {
				from = start
			}
		}
		checkMatch(t, source, r, text, at, wantMatch(rules, text, from))
		if got, want := cut(t, r, text), wantCut(rules, text); !slices.Equal(got, want) {
			t.Errorf("by %q Cut(%q) = %v, want %v", source, text, got, want)
		}
	})
}

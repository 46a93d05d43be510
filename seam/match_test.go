package seam_test

import (
	"fmt"
	"math"
	"strings"
	"testing"

	"seam/api"
	"seam/seam"
)

// none is what Match answers where nothing matches.
func none(from int) api.Segment { return api.Segment{From: from, To: from, Rule: -1} }

// match is a Match at the beginning of a text: how far it goes (0: nowhere).
type match struct {
	source, text string
	to, rule     int
}

func checkMatches(t *testing.T, matches ...match) {
	t.Helper()
	for _, m := range matches {
		want := api.Segment{To: m.to, Rule: m.rule}
		if m.to == 0 {
			want = none(0)
		}
		checkMatch(t, m.source, compiled(t, m.source), m.text, 0, want)
		checkTexts(t, m.source, m.text)
	}
}

func TestP6OrdinaryRules(t *testing.T) {
	checkMatches(t,
		match{"'a';", "a", 1, 0}, match{"'a';", "ab", 1, 0}, match{"'a';", "b", 0, 0}, match{"'a';", "ba", 0, 0}, match{"'a';", "A", 0, 0},
		match{"'abc';", "abcd", 3, 0}, match{"'abc';", "abd", 0, 0}, match{"'abc';", "ab", 0, 0}, match{"'abc';", "bca", 0, 0},
		match{"'a' 'b';", "ab", 2, 0}, match{"'a' 'b';", "ba", 0, 0}, match{"'a' 'b';", "a b", 0, 0},
		match{"'a' | 'b';", "b", 1, 0}, match{"'a' | 'b';", "ab", 1, 0}, match{"'a' | 'b';", "c", 0, 0},
		match{"'ab' | 'cd' | 'e';", "cde", 2, 0}, match{"'a' 'b' | 'c';", "ac", 0, 0}, match{"'a' ('b' | 'c');", "ac", 2, 0},
		match{"'a'*;", "aaab", 3, 0}, match{"'a'+;", "aaab", 3, 0}, match{"'a'?;", "aaab", 1, 0},
		match{"'a'* 'b';", "aab", 3, 0}, match{"'a'* 'b';", "b", 1, 0}, match{"'a'+ 'b';", "aab", 3, 0}, match{"'a'+ 'b';", "b", 0, 0},
		match{"'a'? 'b';", "ab", 2, 0}, match{"'a'? 'b';", "b", 1, 0}, match{"'a'? 'b';", "aab", 0, 0}, match{"'a'* 'b';", "aac", 0, 0},
		match{"'ab'*;", "ababa", 4, 0}, match{"'ab'+;", "ababa", 4, 0}, match{"'ab'?;", "abab", 2, 0}, match{"'ab'+;", "aab", 0, 0},
		match{"('ab' | 'c')+;", "cabcabac", 6, 0}, match{"'a'+ 'a';", "aaa", 3, 0}, match{"'a'+ 'a';", "a", 0, 0}, match{"'a'* 'a'* 'a';", "a", 1, 0},
		match{"[a-c]+;", "abcd", 3, 0}, match{"[ac]+;", "acb", 2, 0}, match{"[^a-c]+;", "xyza", 3, 0}, match{".;", "ab", 1, 0}, match{".+;", "ab\n\x00", 4, 0},
		match{"'\\n' | '\\t' | '\\\\' | '\\'';", "\\", 1, 0}, match{"'a' # 'x'\n 'b';", "ab", 2, 0}, match{"'\u00e9\u4e16\U0001F600';", "\u00e9\u4e16\U0001F600", 9, 0},
	)
}

func TestP6TheLongestCounts(t *testing.T) {
	checkMatches(t,
		match{"'a';'ab';", "ab", 2, 1}, match{"'ab';'a';", "ab", 2, 0}, match{"'a';'abc';'ab';", "abc", 3, 1}, match{"'a';'abc';'ab';", "abx", 2, 2}, match{"'a';'abc';'ab';", "ax", 1, 0},
		match{"'a'|'ab';", "abc", 2, 0}, match{"('a'|'ab')('c'|'bcd');", "abcd", 4, 0}, match{"('a'|'ab')'c'?;", "abc", 3, 0},
		match{"'a'?'ab'?;", "ab", 2, 0}, match{"'a'*'aab';", "aaaab", 5, 0}, match{"'a'*'b'|'a';", "aaac", 1, 0}, match{"'a''b''c'|'b';'ab';", "abab", 2, 1},
		match{".*'b';", "abcbc", 4, 0}, match{".*'b';.;", "acc", 1, 1}, match{"'ab'*'a'?;", "ababab", 6, 0}, match{"'aaa'|'a';'aa';", "aa", 2, 1},
		// Only what follows on the way tells whether a match goes on.
		match{"'a'+;'a'+'b'+'c';", "aaabbbd", 3, 0}, match{"'a'+;'a'+'b'+'c';", "aaabbbc", 7, 1},
	)
}

func TestP6TheFirstRuleCounts(t *testing.T) {
	checkMatches(t,
		match{"'a';'a';", "a", 1, 0}, match{"'b';'a';'a';", "a", 1, 1}, match{"[a-z]+;[a-z]'x'*;", "axx", 3, 0}, match{"[a-z]'x'*;[a-z]+;", "axx", 3, 0}, match{"[a-z]'x'*;[a-z]+;", "axb", 3, 1},
		match{"'ab';'a'.;.+;", "ab", 2, 0}, match{".+;'a'.;'ab';", "ab", 2, 0}, match{"'a'+'b';[ab]+;", "aab", 3, 0}, match{"'a'+'b';[ab]+;", "aaba", 4, 1},
		match{"[];.;'a';", "a", 1, 1}, match{"'a'?;'a'*;", "a", 1, 0}, match{"'a'?;'a'*;", "aa", 2, 1}, match{"'b'*;'a'*;", "a", 1, 1},
	)
}

func TestP6NoUnitsAreNoMatch(t *testing.T) {
	for _, source := range []string{"'a'*;", "'a'?;", "'a'*'a'?;", "('a'|'a'*)+;", "('a'?)*;", "[]*;", "[]?;", "[]*[]?;", "'a'*;'a'+;'a'?;", "[];", "'ab'*;", "'ab'?'ac'*;", "$x='a'*;$x$x|$x+;"} {
		r := compiled(t, source)
		for _, text := range []string{"", "b", "ba", "\xff", "\u00e9", "b\xff"} {
			checkMatch(t, source, r, text, 0, none(0))
			checkMatch(t, source, r, text, len(text), none(len(text)))
			checkTexts(t, source, text)
		}
	}
	checkMatch(t, "'a'*;", compiled(t, "'a'*;"), "ab", 1, none(1))
	checkMatch(t, "'a'*;'b';", compiled(t, "'a'*;'b';"), "ab", 1, api.Segment{From: 1, To: 2, Rule: 1})
}

// words are all texts of the letters, up to so many.
func words(letters string, most int) []string {
	all := []string{""}
	for from := 0; len(all[len(all)-1]) < most; {
		end := len(all)
		for ; from < end; from++ {
			for _, r := range letters {
				all = append(all, all[from]+string(r))
			}
		}
	}
	return all
}

var signs = []string{"", "*", "+", "?"}

func TestP6RepetitionsWithinOneAnother(t *testing.T) {
	texts := words("ab", 4)
	for _, form := range []string{"(('a'%s)%s)%s'b';", "('a'%s'b'%s)%s;", "('a'%s|'b'%s)%s;", "(('a'%s)%s'b')%s;", "('a'('b'%s)%s)%s'a';", "('ab'%s|'b'%s)%s;", "('a'%s'b'%s)%s[];", "'a'%s'b'%s'a'%s;", "([]%s'a')%s'b'%s;"} {
		for i := range 64 {
			checkTexts(t, fmt.Sprintf(form, signs[i%4], signs[i/4%4], signs[i/16]), texts...)
		}
	}
}

func TestP6PartsThatMatchNothing(t *testing.T) {
	texts := words("ab", 4)
	for i := range 1024 {
		s := func(n int) string { return signs[i>>(2*n)%4] }
		checkTexts(t, "(('a'"+s(0)+"'b'"+s(1)+")"+s(2)+"|'ba'"+s(3)+")"+s(4)+";'a'.;", texts...)
	}
	checkMatches(t, match{"('x'|('y'|('z')+)*)* 'q'?;", "xyzzyq1", 6, 0}, match{"(('a')*)*'b';", "aaab", 4, 0}, match{"(('a')*)*'b';", "aaac", 0, 0}, match{"('a'+)+;", "aa", 2, 0}, match{"('a'?)+'b';", "b", 1, 0}, match{"('a'*'b')+;", "aabbaba", 6, 0}, match{"(('a'|'b')*'abb');", "babbabba", 7, 0})
}

func TestP6AllShortRules(t *testing.T) {
	pieces := []string{"'a'", "'b'", ".", "(", ")", "|", "*", "+", "?", "$x", ";"}
	texts := words("ab", 3)
	n := len(pieces)
	found := 0
	for i := range n * n * n * n * n {
		source := "$x='a'*;" + pieces[i%n] + pieces[i/n%n] + pieces[i/n/n%n] + pieces[i/n/n/n%n] + pieces[i/n/n/n/n] + ";"
		if wantCompile(source).errno == api.OK {
			checkTexts(t, source, texts...)
			found++
		}
	}
	if found < 1000 {
		t.Errorf("only %d rules", found)
	}
}

func TestP6NamesUsedManyTimes(t *testing.T) {
	checkMatches(t,
		match{"$w=[a-z];$w+;$w'x'*;", "axx", 3, 0}, match{"$w=[a-z];$w$w$w;", "abcd", 3, 0}, match{"$w=[a-z];$w'-'$w;", "a-bc", 3, 0}, match{"$w=[a-z];$w'-'$w;", "a-", 0, 0}, match{"$w=[a-z];$w'1'|$w'2';", "a2", 2, 0},
		match{"$w='ab';$w*$w;", "ababab", 6, 0}, match{"$w='a'|'b';$w$w;", "ab", 2, 0}, match{"$w='a'|'b';'x'$w'y';", "xby", 3, 0}, match{"$w='a'|'bc';$w'y';", "ay", 2, 0}, match{"$w='a''b';$w*;", "abab", 4, 0}, match{"$w='a''b';$w*;", "abb", 2, 0},
		match{"$w='a'*;$w'b'$w;", "aabaac", 5, 0}, match{"$w='a'*;$w*;", "aa", 2, 0}, match{"$w='a'?;$w$w$w;", "aaaa", 3, 0}, match{"$w='a'?;$w+;", "aaaa", 4, 0},
		match{"$d=[0-9];$n=$d+;$f=$n('.'$n)?;$f('e'$n)?;", "12.5e3e", 6, 0}, match{"$d=[0-9];$n=$d+;$f=$n('.'$n)?;$f('e'$n)?;", "12.e3", 2, 0},
		match{"$a='x';$b=$a$a;$c=$b$b;$c;$b;$a;", "xxx", 2, 1}, match{"$a='x';$b=$a$a;$c=$b$b;$c;$b;$a;", "xxxxx", 4, 0}, match{"$a='x';$b=$a$a;$c=$b$b;$c;$b;$a;", "xa", 1, 2},
		match{"$a='x';$u='y';$a;", "y", 0, 0},
	)
	ten := "$t='abcdefghij';"
	checkMatches(t, match{ten + strings.Repeat("$t", 10) + ";", strings.Repeat("abcdefghij", 11), 100, 0}, match{ten + strings.Repeat("$t", 10) + ";", strings.Repeat("abcdefghij", 10)[:99], 0, 0}, match{ten + strings.Repeat("$t;", 10), "abcdefghijabc", 10, 0}, match{ten + "('x'|$t)+;", "abcdefghijxxabcdefghijab", 22, 0})
}

func TestP6NamesWithinNames(t *testing.T) {
	var source strings.Builder
	source.WriteString("$aa='a';")
	name := "$aa"
	for i := 1; source.Len() < 1980; i++ {
		next := fmt.Sprintf("$%c%c", 'a'+i/26, 'a'+i%26)
		fmt.Fprintf(&source, "%s=%s%s;", next, name, signs[1+i%3])
		name = next
	}
	checkTexts(t, source.String()+name+";", "", "a", "aaab", "b", strings.Repeat("a", 100))
	half, last := doubled(6)
	checkTexts(t, half+last+";", strings.Repeat("x", 63), strings.Repeat("x", 64), strings.Repeat("x", 200))
	checkTexts(t, half+last+"*;", strings.Repeat("x", 63), strings.Repeat("x", 64), strings.Repeat("x", 200))
}

func TestP6DeepBrackets(t *testing.T) {
	open, texts := strings.Repeat("(", 40), append(words("abc", 4), "aabaabb", "abbac")
	for _, source := range []string{open + "'a'*" + strings.Repeat(")*", 40) + ";", open + "'a'+" + strings.Repeat(" 'b'?)+", 40) + ";", open + "'a'" + strings.Repeat(")?", 40) + ";", open + "'a'" + strings.Repeat("|'b')", 40) + "+;", open + "'a'" + strings.Repeat("'b')*", 40) + ";", strings.Repeat("('a'*", 40) + "'b'" + strings.Repeat(")+", 40) + ";", strings.Repeat("('a'?|", 40) + "'b'" + strings.Repeat(")*'c'?", 40) + ";"} {
		checkTexts(t, source, texts...)
	}
}

// noText are bytes of which none is part of a well-formed rune.
var noText = []string{"\x80", "\xbf", "\xc0", "\xc3", "\xff", "\xfe", "\xe4\xb8", "\xc0\x80", "\xed\xa0\x80", "\xf0\x9f\x98", "\xf4\x90\x80\x80", "\xe0\x80\xaf"}

func TestP6SetsAtWhatIsNoRune(t *testing.T) {
	for _, c := range []struct {
		source string
		has    bool
	}{
		{".;", true}, {"[^];", true}, {"[];", false}, {"[^a];", true}, {"[a];", false}, {"'a';", false}, {"[^\\u0000-\\u00ff];", true}, {"[\\u0000-\\u00ff];", false}, {"[\\u0080-\\u00ff];", false}, {"'\\u00ff';", false},
		{"'\ufffd';", true}, {"'\\ufffd';", true}, {"[\ufffd];", true}, {"[a\\uFFFD];", true}, {"[^\ufffd];", false}, {"[^a\\ufffd];", false}, {"[\ufffd-\ufffd];", true}, {"[\ufffc-\ufffe];", true}, {"[^\ufffc-\ufffe];", false},
		{"[a-\ufffc];", false}, {"[\ufffe-\U0010FFFF];", false}, {"[^a-\ufffc];", true}, {"[^\ufffe-\U0010FFFF];", true}, {"[\x00-\U0010FFFF];", true}, {"[^\x00-\U0010FFFF];", false}, {"[\ud7ff-\ue000];", false},
	} {
		r := compiled(t, c.source)
		for _, text := range append(noText, "\ufffd") {
			width := 1
			if text == "\ufffd" {
				width = 3
			}
			want := api.Segment{To: width}
			if !c.has {
				want = none(0)
			}
			checkMatch(t, c.source, r, text, 0, want)
			checkMatch(t, c.source, r, text+"a", 0, want)
			repeated := strings.Replace(c.source, ";", "+;", 1)
			checkTexts(t, repeated, text, text+text, "a"+text+"b", text+"\ufffd"+text, "\u00e9"+text)
		}
	}
	checkMatches(t, match{"'\ufffd'+;", "\xff\xfe\ufffda", 5, 0}, match{"'a\ufffd\ufffdb';", "a\xe4\xb8b", 4, 0}, match{"'a'.'b';", "a\xe4\xb8b", 0, 0}, match{"'a'.'b';", "a\u4e16b", 5, 0}, match{"[^a]*;", "\xff\ufffd\u4e16a", 7, 0})
}

func TestP6EveryRune(t *testing.T) {
	r := compiled(t, "[\\u0000-\\u007f];[\\u0080-\\u07ff];[\\u0800-\\uffff];[\U00010000-\U0010FFFF];")
	for c := range rune(0x110000) {
		width := len(string(c))
		if c >= 0xD800 && c <= 0xDFFF {
			continue
		}
		if got, e := r.Match(string(c)+"a", 0); got != (api.Segment{To: width, Rule: width - 1}) || e != api.OK {
			t.Fatalf("Match of %x = %v, %d", c, got, e)
		}
	}
}

func TestP6Places(t *testing.T) {
	const source = "[a-z]+; '\u4e16' [a-z]*; '\U0001F600' .;"
	const text = "ab1\u4e16xy\xff\U0001F600\u00e9"
	r := compiled(t, source)
	for at, want := range []api.Segment{
		{From: 0, To: 2}, {From: 1, To: 2}, none(2),
		{From: 3, To: 8, Rule: 1}, {From: 3, To: 8, Rule: 1}, {From: 3, To: 8, Rule: 1}, {From: 6, To: 8}, {From: 7, To: 8}, none(8),
		{From: 9, To: 15, Rule: 2}, {From: 9, To: 15, Rule: 2}, {From: 9, To: 15, Rule: 2}, {From: 9, To: 15, Rule: 2}, none(13), none(13), none(15),
	} {
		checkMatch(t, source, r, text, at, want)
	}
	for _, at := range []int{-1, -2, -15, -16, -1000, math.MinInt32, math.MinInt, math.MinInt + 1} {
		checkMatch(t, source, r, text, at, api.Segment{To: 2})
		checkMatch(t, source, r, "1a", at, none(0))
		checkMatch(t, source, r, "\u4e16a", at, api.Segment{To: 4, Rule: 1})
	}
	for _, at := range []int{15, 16, 17, 1000, 1001, math.MaxInt32, math.MaxInt - 1, math.MaxInt} {
		checkMatch(t, source, r, text, at, none(15))
		checkMatch(t, source, r, "ab", at, none(2))
	}
	for _, at := range []int{math.MinInt, -1, 0, 1, 5, math.MaxInt} {
		checkMatch(t, source, r, "", at, none(0))
		checkMatch(t, "", compiled(t, ""), "", at, none(0))
		checkMatch(t, ".*;", compiled(t, ".*;"), "", at, none(0))
	}
}

func TestP6PlacesWithinUnits(t *testing.T) {
	const source = ".+;"
	r := compiled(t, source)
	for _, unit := range []string{"a", "\u00e9", "\u4e16", "\ufffd", "\U0001F600", "\U0010FFFF"} {
		for _, ahead := range append(noText, "", "a", "\u00e9", "\u4e16", "\U0001F600") {
			text := ahead + unit + "z"
			for within := range len(unit) {
				checkMatch(t, source, r, text, len(ahead)+within, api.Segment{From: len(ahead), To: len(text)})
			}
		}
	}
	for _, bytes := range noText {
		for i := range len(bytes) {
			checkMatch(t, source, r, bytes+"a", i, api.Segment{From: i, To: len(bytes) + 1})
			checkMatch(t, "", compiled(t, ""), bytes+"a", i, none(i))
		}
	}
}

func TestP6RulesWithoutARule(t *testing.T) {
	for _, source := range []string{"", "# nothing", "$x=.;", "$x='a';$y=$x*;"} {
		r := compiled(t, source)
		for at := range 3 {
			checkMatch(t, source, r, "ab", at, none(at))
		}
		checkMatch(t, source, r, "ab", -1, none(0))
		checkMatch(t, source, r, "ab", 3, none(2))
		checkTexts(t, source, "a\u4e16\xff\ufffd")
	}
}

func TestP6MostRules(t *testing.T) {
	var source strings.Builder
	for i := range 50 {
		fmt.Fprintf(&source, "'\\u%04x' %s;", 0x4e00+i, []string{".", "'a'"}[i%2])
	}
	r := compiled(t, source.String())
	checkRules(t, source.String(), 50, 100)
	for i := range rune(50) {
		first := string(0x4e00 + i)
		checkMatch(t, "", r, first+"a"+first, 0, api.Segment{To: 4, Rule: int(i)})
		want := api.Segment{To: 4, Rule: int(i)}
		if i%2 == 1 {
			want = none(0)
		}
		checkMatch(t, "", r, first+"b", 0, want)
		checkMatch(t, "", r, first, 0, none(0))
	}
	same := strings.Repeat("'a';", 49) + "'aa';"
	checkMatches(t, match{same, "a", 1, 0}, match{same, "aa", 2, 49}, match{strings.Repeat("[];", 49) + ".+;", "abc", 3, 49}, match{strings.Repeat(".;", 50), "a", 1, 0})
}

func TestP6MostPlaces(t *testing.T) {
	var long strings.Builder
	for i := range 100 {
		long.WriteByte("abcdefghijklmnopqrstuvwxyz0123456789"[i*7%36])
	}
	quote, text := "'"+long.String()+"';", long.String()
	checkMatches(t, match{quote, text, 100, 0}, match{quote, text + text, 100, 0}, match{quote, text[:99], 0, 0})
	for i := range 100 {
		checkMatches(t, match{quote, text[:i] + "_" + text[i+1:], 0, 0})
		checkMatches(t, match{strings.Repeat(".", 99) + "'x';", strings.Repeat("y", i) + "x" + strings.Repeat("y", 99-i), []int{0, 100}[i/99], 0})
		checkMatches(t, match{strings.Repeat("'x'?", 100) + ";", strings.Repeat("x", i) + "y", i, 0})
		// The only place that has x lies behind i others.
		others := strings.Repeat("[]|", i) + "'x'" + strings.Repeat("|[]", 99-i)
		checkMatches(t, match{others + ";", "xx", 1, 0}, match{"(" + others + ")+;", "xxx", 3, 0}, match{"(" + others + ")*;", "y", 0, 0})
	}
	checkMatches(t, match{strings.Repeat("'x'?", 100) + ";", strings.Repeat("x", 150), 100, 0}, match{strings.Repeat("'x'*", 100) + ";", strings.Repeat("x", 150) + "y", 150, 0}, match{strings.Repeat("'x'", 100) + ";", strings.Repeat("x", 100), 100, 0}, match{strings.Repeat("'x'+", 100) + ";", strings.Repeat("x", 99), 0, 0})
	// Each place may come behind each.
	all := "([a]" + strings.Repeat("|[a]|[b]", 49) + "|[c])+;"
	checkMatches(t, match{all, strings.Repeat("abc", 30) + "d", 90, 0}, match{all, "dabc", 0, 0})
}

func TestP6LongTexts(t *testing.T) {
	for _, c := range []struct {
		source, piece string
		rule          int
	}{{"'a'+;", "a", 0}, {".*;", "\xff", 0}, {"'b';[\u00e9]+;", "\u00e9", 1}, {"'\U0001F600'*;", "\U0001F600", 0}, {".+;", "\xf0\x9f\x98a", 0}, {"('a'*)*;", "a", 0}, {strings.Repeat("'a'*", 100) + ";", "a", 0}} {
		r := compiled(t, c.source)
		text := strings.Repeat(c.piece, 1000/len(c.piece))
		checkMatch(t, c.source, r, text, -1, api.Segment{To: 1000, Rule: c.rule})
		checkMatch(t, c.source, r, text, 0, api.Segment{To: 1000, Rule: c.rule})
		_, starts := wantUnits(text)
		checkMatch(t, c.source, r, text, 999, api.Segment{From: starts[len(starts)-1], To: 1000, Rule: c.rule})
		checkMatch(t, c.source, r, text, 1000, none(1000))
		checkMatch(t, c.source, r, text, 1001, none(1000))
		for _, long := range []string{text + "a", "a" + text, text + "\x80", text + text, strings.Repeat(text, 100)} {
			checkTooLong(t, r, long)
		}
	}
	checkTooLong(t, compiled(t, ""), strings.Repeat("a", 1001))
	checkTooLong(t, compiled(t, ".;"), strings.Repeat("a", 999)+"\u00e9")
}

func checkTooLong(t *testing.T, r *seam.Rules, text string) {
	t.Helper()
	for _, at := range []int{math.MinInt, -1, 0, 1, 1000, 1001, len(text), math.MaxInt} {
		if s, e := r.Match(text, at); s != (api.Segment{}) || e != api.ErrLong {
			t.Errorf("Match of %d bytes at %d = %v, %d, want noughts, %d", len(text), at, s, e, api.ErrLong)
		}
	}
	if l, e := r.Cut(text); len(l) != 0 || e != api.ErrLong {
		t.Errorf("Cut of %d bytes = %v, %d, want none, %d", len(text), l, e, api.ErrLong)
	}
}

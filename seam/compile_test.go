package seam_test

import (
	"fmt"
	"math/rand"
	"strings"
	"testing"

	"seam/api"
	"seam/seam"
)

func compiled(t *testing.T, source string) *seam.Rules {
	t.Helper()
	r, place, e := seam.Compile(source)
	if r == nil || place != 0 || e != api.OK {
		t.Fatalf("Compile(%q) = %v, %d, %d, want rules, 0, 0", source, r, place, e)
	}
	return r
}

func checkRules(t *testing.T, source string, count, places int) {
	t.Helper()
	r, place, e := seam.Compile(source)
	if r == nil || place != 0 || e != api.OK {
		t.Errorf("Compile(%q) = %v, %d, %d, want rules, 0, 0", source, r, place, e)
		return
	}
	if r.Count() != count || r.Places() != places {
		t.Errorf("of %q: %d rules, %d places, want %d, %d", source, r.Count(), r.Places(), count, places)
	}
}

func checkFault(t *testing.T, source string, place int, errno api.Errno) {
	t.Helper()
	r, p, e := seam.Compile(source)
	if r != nil || p != place || e != errno {
		t.Errorf("Compile(%q) = %v, %d, %d, want nil, %d, %d", source, r, p, e, place, errno)
	}
}

// checkCompile holds Compile, Count, Places and Same against the machine.
func checkCompile(t *testing.T, source string) {
	t.Helper()
	want := wantCompile(source)
	if want.errno != api.OK {
		checkFault(t, source, want.place, want.errno)
		return
	}
	checkRules(t, source, want.count, len(want.sets))
	r, _, e := seam.Compile(source)
	if e != api.OK {
		return
	}
	for i, a := range askedRunes {
		// Other pairs for other sources: all of them for each take too long.
		b := askedRunes[(i+len(source))%len(askedRunes)]
		if r.Same(a, b) != wantSame(want.sets, a, b) || r.Same(b, a) != wantSame(want.sets, a, b) {
			t.Errorf("of %q: Same(%x, %x) is not %v", source, a, b, wantSame(want.sets, a, b))
		}
	}
}

type fault struct {
	source string
	place  int
}

func checkFaults(t *testing.T, errno api.Errno, faults ...fault) {
	t.Helper()
	for _, f := range faults {
		checkFault(t, f.source, f.place, errno)
	}
}

func TestP4DocumentExamples(t *testing.T) {
	checkRules(t, "[a-z]+ ; [0-9]+ ('.' [0-9]+)? ; # numbers", 2, 4)
	checkRules(t, "$w = [a-z]; $w+; $w 'x'* ;", 2, 3)
	checkFault(t, "'a' | ;", 6, api.ErrForm)
	checkFault(t, "[z-a];", 1, api.ErrRange)
	checkFault(t, "$x;", 0, api.ErrName)
	checkFault(t, "[a", 2, api.ErrForm)
	checkRules(t, "", 0, 0)
}

func TestP4OrdinaryRules(t *testing.T) {
	for _, c := range []struct {
		source        string
		count, places int
	}{
		{".;", 1, 1}, {"'a';", 1, 1}, {"'abc';", 1, 3}, {"[abc];", 1, 1}, {"[a-z0-9_];", 1, 1},
		{"[];", 1, 1}, {"[^];", 1, 1}, {"[^a];", 1, 1}, {"[^^];", 1, 1}, {"[a^];", 1, 1}, {"[[];", 1, 1}, {"[#;()|*$.];", 1, 1},
		{"'a'*;", 1, 1}, {"'a'+;", 1, 1}, {"'a'?;", 1, 1}, {"'ab'*;", 1, 2}, {"'a'*'b'+'c'?'d';", 1, 4},
		{"'a'|'b';", 1, 2}, {"'a'|'b'|'c'|'d';", 1, 4}, {"'a''b'|'c''d';", 1, 4},
		{"('a');", 1, 1}, {"('a'|'b')*;", 1, 2}, {"(('a')('b'))+;", 1, 2}, {"('a'*)*;", 1, 1}, {"(('a'?)+)*;", 1, 1},
		{"'a';'b';'c';", 3, 3}, {".;[];'ab';", 3, 4},
		{"'(';", 1, 1}, {"'$x=;';", 1, 4}, {"'# no comment';", 1, 12}, {"'\"';", 1, 1},
		{"' ';", 1, 1}, {"'\t\n';", 1, 2}, {"[ \t\n];", 1, 1}, {"'\x00';", 1, 1}, {"[\x00-\x7f];", 1, 1}, {"'\r';", 1, 1},
		{"'\u00e9\u4e16\U0001F600\ufffd';", 1, 4}, {"[\u00e9-\u4e16\U0001F600-\U0010FFFF];", 1, 1}, {"'e\u0301';", 1, 2},
		{"[a-a];", 1, 1}, {"[ab-cd];", 1, 1}, {"[a-bb-c];", 1, 1}, {"[a-b^-z];", 1, 1}, {"[+-\\-];", 1, 1},
		{"[!-'];", 1, 1}, {"['-(];", 1, 1}, {"'a-b]^[';", 1, 6},
	} {
		checkRules(t, c.source, c.count, c.places)
	}
}

func TestP4NothingButBlanks(t *testing.T) {
	for _, source := range []string{"", " ", "\t", "\n", "#", "#\n", "# x", "##\n#\n\n", " \t\n \t\n", "#';[(\\$", "# \xff\xc3\n\t# \xed\xa0\x80", "#\r\n", "#\x00"} {
		checkRules(t, source, 0, 0)
	}
}

// parts are a source of 2 rules and 8 places, cut wherever something may
// stand between.
var parts = []string{"$w", "=", "(", "[a-z]", "|", "'_'", ")", "+", ";", "$w", "'#'", "?", "|", ".", "*", ";", "(", "(", "$w", ")", ")", "$w", "+", ";"}

var between = []string{"", " ", "\t", "\n", "  ", " \t\n", "#\n", "# = ; ( ' [\n", "#\xff\n", "\n# a\n# b\n\t", "#\u00e9\\\n "}

func TestP4BetweenAnyTwoParts(t *testing.T) {
	whole := strings.Join(parts, "")
	checkRules(t, whole, 2, 8)
	for _, gap := range between {
		checkRules(t, gap+strings.Join(parts, gap)+gap, 2, 8)
		for i := range len(parts) + 1 {
			source := strings.Join(parts[:i], "") + gap + strings.Join(parts[i:], "")
			checkRules(t, source, 2, 8)
			source = strings.Join(parts[:i], gap) + gap + "!" + strings.Join(parts[i:], gap)
			checkCompile(t, source)
			if i != 1 { // there it is ErrName: what no "=" follows is a use
				checkFault(t, source, len(strings.Join(parts[:i], gap)+gap), api.ErrForm)
			}
		}
	}
}

func TestP4NothingElseBetweenParts(t *testing.T) {
	for _, gap := range []string{"\r", "\v", "\f", "\x00", "\x08", "\x1b", "\u0085", "\u00a0", "\u2028", "\ufeff", "\xff", "\xa0", "\x80", "\ufffd", "/", "\"", "\\", "^", "-", "a", "A", "0", "_", "]", "{", "}", "!", "&", ",", ":", "<", ">", "@", "`", "~", "%", "=", "*", "+", "?", ")", "|"} {
		checkFault(t, gap+"'a';", 0, api.ErrForm)
		checkFault(t, "'a';"+gap, 4, api.ErrForm)
		checkFault(t, "'a';\n"+gap+"'b';", 5, api.ErrForm)
		checkFault(t, "('a'|"+gap+"'b');", 5, api.ErrForm)
		checkFault(t, "$x="+gap+"'b';", 3, api.ErrForm)
		if !strings.Contains("*+?|", gap) {
			checkFault(t, "'a'"+gap+";", 3, api.ErrForm)
			checkFault(t, "$x='a';.$x "+gap+"|'b';", 11, api.ErrForm)
		}
	}
}

func TestP4NoBlanksWithin(t *testing.T) {
	checkFaults(t, api.ErrForm, fault{"$ x='a';", 0}, fault{"$#\nx='a';", 0}, fault{"'a' $\tx;", 4}, fault{"$\nx;", 0}, fault{"'\\ n';", 1}, fault{"'\\u 0041';", 1}, fault{"'\\u00 41';", 1}, fault{"[\\u004\n1];", 1})
	checkFault(t, "$x y='a';", 0, api.ErrName)
	checkFault(t, "$x='a';$x y;", 10, api.ErrForm)
	checkRules(t, "[a -b];", 1, 1)
	if r := compiled(t, "[a -b];"); !r.Same('!', 'b') || r.Same('!', 'c') {
		t.Error("a blank in a set is no char of it")
	}
	if r := compiled(t, "[a#\n];"); !r.Same('#', '\n') || r.Same('#', ';') {
		t.Error("a # in a set is no char of it")
	}
	if r := compiled(t, "[ ^a];"); !r.Same('^', ' ') || r.Same('^', 'b') {
		t.Error("a ^ that is not right behind the [ is no char")
	}
}

func TestP4WhatCannotStand(t *testing.T) {
	checkFaults(t, api.ErrForm,
		fault{";", 0}, fault{"'a';;", 4}, fault{" ;", 1}, fault{"|'a';", 0}, fault{"*;", 0}, fault{"+'a';", 0}, fault{"?;", 0}, fault{")", 0}, fault{"]", 0}, fault{"=", 0}, fault{"-", 0}, fault{"^", 0}, fault{"a;", 0}, fault{"Z;", 0}, fault{"0;", 0}, fault{"\\n;", 0}, fault{"\\", 0},
		fault{"'a'||'b';", 4}, fault{"'a'|*;", 4}, fault{"'a'|);", 4}, fault{"('a'|);", 5}, fault{"(|'a');", 1}, fault{"();", 1}, fault{"( );", 2}, fault{"(*);", 1}, fault{"('a';", 4}, fault{"('a';)", 4}, fault{"'a');", 3}, fault{"('a'));", 5}, fault{"(('a');", 6},
		fault{"'a'**;", 4}, fault{"'a'+?;", 4}, fault{"'a'? ?;", 5}, fault{"'a'*+;", 4}, fault{"('a'*)+*;", 7}, fault{".*.**;", 4},
		fault{"'a'='b';", 3}, fault{"=;", 0}, fault{"('a')=.;", 5}, fault{"$x=='a';", 3}, fault{"$x=;", 3}, fault{"$x=|'a';", 3}, fault{"$x='a'='b';", 6}, fault{"$x='a';$y=$x='b';", 12}, fault{"$x='a';'b'$x='c';", 12}, fault{"$x='a';($x='c');", 10}, fault{"$x='a';'b'|$x=.;", 13}, fault{"$x='a';$x*=.;", 10}, fault{"$x='a'|$ =.;", 7},
		fault{"'';", 1}, fault{"'a''';", 4}, fault{"[-];", 1}, fault{"[-a];", 1}, fault{"[^-a];", 2}, fault{"[a-];", 3}, fault{"[a--];", 3}, fault{"[a-b-c];", 4}, fault{"[a-b-];", 4}, fault{"[ab-];", 4}, fault{"[]];", 2}, fault{"[^]];", 3}, fault{"[[]];", 3}, fault{"[a]-b];", 3}, fault{"[a-]b];", 3}, fault{"[+--];", 3},
		fault{"'a' 'b' c", 8}, fault{"'a'\r\n;", 3}, fault{"\u4e16;", 0}, fault{"'a'\u4e16;", 3}, fault{"\"a\";", 0}, fault{"'a',", 3}, fault{"'a':'b';", 3}, fault{"'a'{2};", 3}, fault{"/a/;", 0}, fault{"//x\n'a';", 0})
}

func TestP4SourceEndsTooEarly(t *testing.T) {
	for _, source := range []string{"'", "'a", "'a'", "'a'*", "'a' ", "'a'#", "'a' # ;\n", "'a'|", "'a'|\t", "(", "((", "('a'", "('a')", "(#x", "[", "[^", "[^^", "[a", "[a-", "[a-b", "[^a-", "[]", "[^]", ".", ". .", ".;.", "$x=", "$x= ", "$x='a'", "$x='a';$x", "$x='a';$x ", "$x='a';$x#=", "$x='a';$xy=$x", "$x='a';.$x", "'a\u00e9", "[\u00e9-", "';", "'a;", "[a;", "'\\'", "[\\]", "'\\\\", "[\\u0041-", "'\\u0041"} {
		checkFault(t, source, len(source), api.ErrForm)
	}
	whole := "$w=[a\\u0041-\\u005a\\n]+;($w|'\\'x')*.?;"
	for n := range len(whole) {
		checkCompile(t, whole[:n])
	}
}

func TestP4DollarsWithoutName(t *testing.T) {
	for _, tail := range []string{"", ";", " ", "A", "Z", "0", "_", "$", "$x", "=", " =", "=.;", "(", "'a'", "*", "\u00e9", "\xff", "\x00", "`", "{", " x", "\nx", "#x\n"} {
		checkFault(t, "$"+tail, 0, api.ErrForm)
		checkFault(t, "'a' $"+tail, 4, api.ErrForm)
		checkFault(t, "$x=.;($"+tail, 6, api.ErrForm)
		checkFault(t, "$x=$"+tail, 3, api.ErrForm)
	}
}

func TestP4Names(t *testing.T) {
	for _, source := range []string{"$a=.;$a;", "$z=.;$z;", "$az=.;$az;", "$abcdefghijklmnopqrstuvwxyz=.;$abcdefghijklmnopqrstuvwxyz;", "$x=.;$xx='a';$x;", "$xx=.;$x='a';$xx;", "$x=.;$y=$x;$y;", "$x=.;$y=$x;$z=$y;$x;", "$x # c\n = .;$x#\n;"} {
		checkRules(t, source, 1, 1)
	}
	long := "$" + strings.Repeat("n", 900)
	checkRules(t, long+"='ab';"+long+";", 1, 2)
	checkRules(t, "$x=.;$y='ab'$x;$x$y*|($y);", 1, 7)
	checkRules(t, "$x=.;$x$x$x;$x|$x;", 2, 5)
	checkFault(t, "$x=.;$x-y;", 7, api.ErrForm)
	checkFault(t, "$x=.;$xA;", 7, api.ErrForm)
	checkFault(t, "$x=.;$x1;", 7, api.ErrForm)
	checkFault(t, "$x=.;$x\u00e9;", 7, api.ErrForm)
}

func TestP4NamesThatAreNotThere(t *testing.T) {
	checkFaults(t, api.ErrName,
		fault{"$x;", 0}, fault{" $x;", 1}, fault{"'a'$x;", 3}, fault{"('a'|$x);", 5}, fault{"$x", 0}, fault{"$x ", 0}, fault{"$x#=", 0}, fault{"$x)", 0}, fault{"$x\xff", 0}, fault{"$x\xff=.;", 0}, fault{"$xA=.;", 0}, fault{"$x 'a';", 0}, fault{"$x*;", 0}, fault{"$x*=.;", 0}, fault{"$x|.;", 0}, fault{"$x$y;", 0}, fault{"$x$", 0}, fault{"$x[z-a]", 0}, fault{"$x#\n", 0},
		fault{"$x=$x;", 3}, fault{"$x='a'$x;", 6}, fault{"$x=.|($x);", 6}, fault{"$x=$y;$y=.;", 3}, fault{"$x=$x", 3}, fault{"$x=$x=.;", 3}, fault{"$x=.;$y=$y;", 8},
		fault{"$x;$x=.;", 0}, fault{"'b'|$y;$y='a';", 4}, fault{"$x=.;$y;", 5}, fault{"$x=.;$xx;", 5}, fault{"$xx=.;$x;", 6}, fault{"$x=.;$x$y", 7}, fault{"$x=.;$x $y$z;", 8},
		fault{"'a'$x=.;", 3}, fault{"($x=.);", 1}, fault{"'a'|$x=.;", 4}, fault{"$x=.;$x $y=.;", 8}, fault{"$x=. $y=.;", 5})
}

func TestP4NamesDefinedAnew(t *testing.T) {
	checkFaults(t, api.ErrName,
		fault{"$x=.;$x=.;", 5}, fault{"$x=.;$x='b';$x;", 5}, fault{"$x=.;$x;$x=.;", 8}, fault{"$x=.; $x #\n\t=", 6}, fault{"$x=.;$x=", 5}, fault{"$x=.;$x=;", 5}, fault{"$x=.;$x=\xff", 5}, fault{"$x=.;$x=[z-a];", 5}, fault{"$x=.;$x=$y;", 5}, fault{"$x=.;$x=$", 5}, fault{"$x=.;$y=.;$x=.;", 10}, fault{"$x=.;$y=.;$y=.;", 10}, fault{"$x=.;$x==", 5})
	checkFault(t, "$x=.;$x", 7, api.ErrForm)
	checkFault(t, "$x=.;$x)=.;", 7, api.ErrForm)
	checkFault(t, "$x=.;$x\xff=.;", 7, api.ErrForm)
}

func TestP4RangesThatGoDown(t *testing.T) {
	checkFaults(t, api.ErrRange,
		fault{"[b-a];", 1}, fault{"[^b-a];", 2}, fault{"[b-a", 1}, fault{"[b-a-", 1}, fault{"[b-a\xff", 1}, fault{"[b-a\\", 1}, fault{"[ab-aq];", 2}, fault{"[a-bd-c];", 4}, fault{"[\\u0062-a];", 1}, fault{"[x\\u0062-\\u0061];", 2}, fault{"[a-\\n];", 1}, fault{"[\\n-\\t];", 1}, fault{"[\\]-\\[];", 1}, fault{"[\\^-\\-];", 1}, fault{"[\u4e16-\u00e9];", 1}, fault{"[\u00e9\u4e16-z];", 3}, fault{"[\U0010FFFF-\U0010FFFE];", 1}, fault{"[\\u0001-\x00];", 1}, fault{"[\ue000-\ud7ff];", 1}, fault{"[\ufffe-\ufffd];", 1}, fault{"[z-a]$y;", 1}, fault{".;[b-b];'x'[c-b];", 12}, fault{"$x=[c-b]", 4}, fault{"((([c-b]", 4}, fault{"[b-a][d-c]", 1}, fault{"[z- ];", 1})
	checkFaults(t, api.ErrForm, fault{"[b-", 3}, fault{"[b-]", 3}, fault{"[b--", 3}, fault{"[b-\\", 3}, fault{"[b-\\a];", 3}, fault{"[b-\\u000];", 3}, fault{"[b-\\ud800];", 3}, fault{"[b-\xff];", 3}, fault{"[b-\xc3", 3})
	for _, source := range []string{"[a-a];", "[a-b];", "[\x00-\U0010FFFF];", "[\\t-\\n];", "[\\[-\\]];", "[\ud7ff-\ue000];", "[\ufffd-\ufffe];"} {
		checkRules(t, source, 1, 1)
	}
}

func TestP4Depth(t *testing.T) {
	nested := func(n int) string { return strings.Repeat("(", n) + "'a'" + strings.Repeat(")", n) }
	for _, n := range []int{0, 1, 2, 39, 40} {
		checkRules(t, nested(n)+";", 1, 1)
		checkRules(t, nested(n)+nested(n)+"|"+nested(n)+";"+nested(n)+";", 2, 4)
	}
	for _, n := range []int{41, 42, 80, 900} {
		checkFault(t, nested(n)+";", 40, api.ErrDeep)
		checkFault(t, nested(40)+" "+nested(n)+";", 124, api.ErrDeep)
		checkFault(t, "$x="+nested(n)+";", 43, api.ErrDeep)
	}
	checkRules(t, "$x="+nested(40)+";$y="+strings.Repeat("(", 40)+"$x"+strings.Repeat(")", 40)+";"+strings.Repeat("(", 40)+"$y"+strings.Repeat(")", 40)+";", 1, 1)
	checkRules(t, strings.Repeat("(", 40)+"'('[((]#((\n"+strings.Repeat(")", 40)+";", 1, 2)
	checkRules(t, strings.Repeat("(.)", 600)[:3*99]+";", 1, 99)
	checkFault(t, strings.Repeat("(", 40), 40, api.ErrForm)
	checkFault(t, strings.Repeat("(", 41), 40, api.ErrDeep)
	checkFault(t, strings.Repeat("( ", 41), 80, api.ErrDeep)
	checkFault(t, strings.Repeat("(", 40)+")(", 40, api.ErrForm)
	checkFault(t, strings.Repeat("(", 40)+"[b-a](", 41, api.ErrRange)
	checkFault(t, strings.Repeat("(", 40)+".)((", 43, api.ErrDeep)
}

func TestP4MostRules(t *testing.T) {
	checkRules(t, strings.Repeat(".;", 49), 49, 49)
	checkRules(t, strings.Repeat(".;", 50), 50, 50)
	checkRules(t, strings.Repeat("'ab';", 50), 50, 100)
	checkFault(t, strings.Repeat(".;", 51), 0, api.ErrLarge)
	checkFault(t, strings.Repeat(".;", 1000), 0, api.ErrLarge)
	checkFault(t, strings.Repeat("$a=.;", 1)+strings.Repeat("$a;", 51), 0, api.ErrLarge)
	checkFault(t, strings.Repeat(".;", 51)+";", 102, api.ErrForm)
	checkFault(t, strings.Repeat(".;", 51)+"$x;", 102, api.ErrName)
	checkFault(t, strings.Repeat(".;", 51)+"[b-a", 103, api.ErrRange)
	checkFault(t, strings.Repeat(".;", 51)+strings.Repeat("(", 41), 142, api.ErrDeep)
	var defines strings.Builder
	for i := range 100 {
		fmt.Fprintf(&defines, "$%c%c=.;", 'a'+i/10, 'a'+i%10)
	}
	checkRules(t, defines.String(), 0, 0)
	checkRules(t, defines.String()+strings.Repeat(".;", 50), 50, 50)
	checkFault(t, defines.String()+strings.Repeat(".;", 51), 0, api.ErrLarge)
}

func TestP4MostPlaces(t *testing.T) {
	for _, piece := range []string{".", "[a]", "[^a-z]*", "'a'", "('a')?", "(.)", "\n.", "[]"} {
		checkRules(t, strings.Repeat(piece, 99)+";", 1, 99)
		checkRules(t, strings.Repeat(piece, 100)+";", 1, 100)
		checkRules(t, strings.Repeat(piece, 99)+";.;", 2, 100)
		checkFault(t, strings.Repeat(piece, 101)+";", 0, api.ErrLarge)
		checkFault(t, strings.Repeat(piece, 100)+";.;", 0, api.ErrLarge)
	}
	checkRules(t, "'"+strings.Repeat("a", 100)+"';", 1, 100)
	checkRules(t, "'"+strings.Repeat("\\u00e9", 100)+"';", 1, 100)
	checkRules(t, "'"+strings.Repeat("\U0001F600", 100)+"';", 1, 100)
	checkRules(t, "["+strings.Repeat("a-z", 600)+"];", 1, 1)
	checkFault(t, "'"+strings.Repeat("a", 101)+"';", 0, api.ErrLarge)
	checkFault(t, "'"+strings.Repeat("a", 1997)+"';", 0, api.ErrLarge)
	checkFault(t, ".;'"+strings.Repeat("a", 99)+"'|.;", 0, api.ErrLarge)
	checkFault(t, strings.Repeat(".", 101)+";\xff", 102, api.ErrForm)
	checkFault(t, strings.Repeat(".", 101), 101, api.ErrForm)
}

func TestP4MostPlacesByNames(t *testing.T) {
	ten := "$a='aaaaaaaaaa';"
	checkRules(t, ten, 0, 0)
	checkRules(t, ten+strings.Repeat("$a", 10)+";", 1, 100)
	checkRules(t, ten+strings.Repeat("$a;", 10), 10, 100)
	checkRules(t, ten+strings.Repeat("$a|", 9)+"$a*;", 1, 100)
	checkRules(t, ten+"$b=$a$a$a;$c=$b|$b|$b;$c$a;", 1, 100)
	checkRules(t, ten+"$b=$a$a$a;$c=$b|$b|$b;$c;$a;", 2, 100)
	checkFault(t, ten+strings.Repeat("$a", 11)+";", 0, api.ErrLarge)
	checkFault(t, ten+strings.Repeat("$a", 10)+";.;", 0, api.ErrLarge)
	checkFault(t, ten+"$b=$a$a$a;$c=$b|$b|$b;$c$a.;", 0, api.ErrLarge)
	checkRules(t, "$a="+strings.Repeat(".", 101)+";", 0, 0)
	checkRules(t, "$a="+strings.Repeat(".", 1900)+";'a';", 1, 1)
	checkFault(t, "$a="+strings.Repeat(".", 1900)+";$a;", 0, api.ErrLarge)
	checkRules(t, "$a="+strings.Repeat(".", 500)+";$b=$a$a$a|.;'a';", 1, 1)
	checkRules(t, "$a="+strings.Repeat(".", 100)+";$b=$a$a;$c=$b$b;$a;", 1, 100)
}

// doubled are defines of which each has twice the places of the one ahead.
func doubled(times int) (string, string) {
	var source strings.Builder
	source.WriteString("$a=.;")
	name := "$a"
	for i := range times {
		next := fmt.Sprintf("$%c%c", 'a'+i/26, 'a'+i%26)
		fmt.Fprintf(&source, "%s=%s%s;", next, name, name)
		name = next
	}
	return source.String(), name
}

func TestP4MorePlacesThanNumbers(t *testing.T) {
	for _, times := range []int{7, 31, 32, 62, 63, 64, 65, 100, 128, 140} {
		source, last := doubled(times)
		checkRules(t, source, 0, 0)
		checkRules(t, source+".;", 1, 1)
		checkFault(t, source+last+";", 0, api.ErrLarge)
		checkFault(t, source+last+"*|"+last+";", 0, api.ErrLarge)
		checkFault(t, source+last+";$", len(source+last)+1, api.ErrForm)
	}
	source, last := doubled(6)
	checkRules(t, source+last+";", 1, 64)
}

func TestP4LongSources(t *testing.T) {
	for _, piece := range []string{" ", "\n", "#", "#\n", "\t "} {
		source := strings.Repeat(piece, 2000/len(piece))
		checkRules(t, source, 0, 0)
		checkFault(t, source+" ", 0, api.ErrLong)
		checkFault(t, "#"+source, 0, api.ErrLong)
	}
	checkRules(t, "'a';"+strings.Repeat(" ", 1996), 1, 1)
	checkRules(t, strings.Repeat("\n", 1996)+"'a';", 1, 1)
	checkFault(t, "'a';"+strings.Repeat(" ", 1997), 0, api.ErrLong)
	checkFault(t, strings.Repeat("x", 2000), 0, api.ErrForm)
	checkFault(t, strings.Repeat(" ", 1999)+"x", 1999, api.ErrForm)
	checkFault(t, strings.Repeat(" ", 1999)+"'", 2000, api.ErrForm)
	checkFault(t, strings.Repeat(" ", 1998)+"$x", 1998, api.ErrName)
	checkFault(t, "'"+strings.Repeat("a", 1999), 2000, api.ErrForm)
	checkFault(t, "["+strings.Repeat("a", 1999), 2000, api.ErrForm)
	checkRules(t, "["+strings.Repeat("a", 1997)+"];", 1, 1)
	for _, piece := range []string{"x", "\xff", "(", ".;", "$x;", "[b-a]", "$x=.;", "\u00e9", "'", "\\"} {
		for _, n := range []int{2001, 2002, 4000, 1 << 16, 1 << 20} {
			checkFault(t, strings.Repeat(piece, n)[:n], 0, api.ErrLong)
		}
	}
	// Bytes are counted, not runes.
	checkRules(t, "#"+strings.Repeat("\U0001F600", 499)+"abc", 0, 0)
	checkFault(t, "#"+strings.Repeat("\U0001F600", 500), 0, api.ErrLong)
}

// char is how a rune is written in a set or a quote.
type char struct {
	written string
	r       rune
}

var escapes = []char{{`\'`, '\''}, {`\\`, '\\'}, {`\[`, '['}, {`\]`, ']'}, {`\-`, '-'}, {`\^`, '^'}, {`\n`, 10}, {`\t`, 9}, {`\u0000`, 0}, {`\u0041`, 'A'}, {`\u00e9`, 0xE9}, {`\u00E9`, 0xE9}, {`\uabcd`, 0xABCD}, {`\uABCD`, 0xABCD}, {`\uefEF`, 0xEFEF}, {`\u0123`, 0x123}, {`\u4567`, 0x4567}, {`\u89ab`, 0x89AB}, {`\ud7ff`, 0xD7FF}, {`\uD7FF`, 0xD7FF}, {`\ue000`, 0xE000}, {`\ufffd`, 0xFFFD}, {`\uffff`, 0xFFFF}, {`\u005d`, ']'}, {`\u0027`, '\''}, {`\u005c`, '\\'}, {`\u005E`, '^'}, {`\u002d`, '-'}}

// checkOnly checks that the only place of a source has just this rune.
func checkOnly(t *testing.T, source string, r rune) {
	t.Helper()
	checkRules(t, source, 1, 1)
	got := compiled(t, source)
	if got.Same(r, r-1) || got.Same(r, r+1) || got.Same(r, -1) || !got.Same(r-1, r+1) || !got.Same(r-1, -1) {
		t.Errorf("%q has not just %x", source, r)
	}
}

func TestP4Escapes(t *testing.T) {
	for _, c := range escapes {
		checkOnly(t, "["+c.written+"];", c.r)
		checkOnly(t, "[^"+c.written+"];", c.r)
		checkOnly(t, "'"+c.written+"';", c.r)
		checkOnly(t, "["+c.written+"-"+c.written+"];", c.r)
		checkRules(t, "'x"+c.written+c.written+"y';", 1, 4)
		checkRules(t, "'"+c.written+"0041';", 1, 5)
	}
	for n := range rune(0x10000) {
		for _, form := range []string{`\u%04x`, `\u%04X`} {
			source := fmt.Sprintf("'"+form+"';", n)
			if n >= 0xD800 && n <= 0xDFFF {
				checkFault(t, source, 1, api.ErrForm)
			} else if n%61 == 0 {
				checkOnly(t, source, n)
			} else {
				checkRules(t, source, 1, 1)
			}
		}
	}
}

func TestP4EscapesCutOff(t *testing.T) {
	for _, c := range escapes {
		for n := 1; n < len(c.written); n++ {
			cut := c.written[:n]
			for _, head := range []string{"'", "[", "[^", "'xy", "[a-", "[a-c", "'\u00e9", "'\\n", ".;'a'|["} {
				checkFault(t, head+cut, len(head), api.ErrForm)
				for _, tail := range []string{"g", "';", " ", "\xff", "\u00e9", "x]", "/", ":", "@", "G", "`", "+", "_", "\n", "\x00"} {
					if n > 1 || !strings.Contains(`'\[]-^ntu`, tail[:1]) {
						checkFault(t, head+cut+tail, len(head), api.ErrForm)
					}
				}
			}
		}
	}
}

func TestP4NoEscapes(t *testing.T) {
	for b := range 256 {
		if b != 0 && strings.IndexByte(`'\[]-^ntu`, byte(b)) >= 0 {
			continue
		}
		s := string([]byte{byte(b)})
		checkFault(t, "'\\"+s+"';", 1, api.ErrForm)
		checkFault(t, "[a\\"+s+"];", 2, api.ErrForm)
		checkFault(t, "[a-\\"+s+"];", 3, api.ErrForm)
		checkFault(t, "'a'\\"+s+";", 3, api.ErrForm)
	}
	checkFaults(t, api.ErrForm, fault{`'\N';`, 1}, fault{`'\T';`, 1}, fault{`'\U0041';`, 1}, fault{`'\U00000041';`, 1}, fault{`'\x41';`, 1}, fault{`'\u{41}';`, 1}, fault{`'\u+041';`, 1}, fault{`'\u-041';`, 1}, fault{`'\u0x41';`, 1}, fault{`'\u0_41';`, 1}, fault{`'\u 041';`, 1}, fault{`'\ud83d\ude00';`, 1}, fault{`[\ud800-\udfff];`, 1}, fault{`[a\uDFFF];`, 2})
}

func TestP4MalformedBytes(t *testing.T) {
	for _, b := range []string{"\x80", "\xbf", "\xc0", "\xc1\x81", "\xc3", "\xe4\xb8", "\xed\xa0\x80", "\xed\xbf\xbf", "\xf0\x9f\x98", "\xf4\x90\x80\x80", "\xf5", "\xfe", "\xff", "\xc0\x80", "\xe0\x80\xaf", "\xe4\u4e16"} {
		checkFaults(t, api.ErrForm,
			fault{b, 0}, fault{"'" + b + "';", 1}, fault{"'a" + b + "';", 2}, fault{"[" + b + "];", 1}, fault{"[^" + b + "];", 2}, fault{"[a-" + b + "];", 3}, fault{"[a" + b + "];", 2}, fault{"'a'" + b + ";", 3}, fault{"'a';" + b, 4}, fault{"('a'" + b + ");", 4}, fault{"$x=" + b + ".;", 3}, fault{"$" + b, 0}, fault{"'\\" + b + "';", 1}, fault{"'\\u00" + b + "';", 1}, fault{"#\n" + b, 2}, fault{"# \xff\n'\u00e9" + b, 7})
		checkFault(t, "$x"+b+"=.;", 0, api.ErrName)
		checkRules(t, "#"+b, 0, 0)
		checkRules(t, "'a'#"+b+"\n;#"+b+"#"+b, 1, 1)
	}
	checkOnly(t, "'\xef\xbf\xbd';", 0xFFFD)
	checkOnly(t, "[\xef\xbf\xbd-\xef\xbf\xbd];", 0xFFFD)
	checkFault(t, "'\xef\xbf\xbd\xef\xbf", 4, api.ErrForm)
	checkFault(t, "\xef\xbf\xbd", 0, api.ErrForm)
}

func TestP4TheFirstFaultCounts(t *testing.T) {
	checkFault(t, "[z-a]$x((", 1, api.ErrRange)
	checkFault(t, "$x[z-a];", 0, api.ErrName)
	checkFault(t, "'a'$x\xff", 3, api.ErrName)
	checkFault(t, "'a'\xff$x", 3, api.ErrForm)
	checkFault(t, "$a=.;$a=[z-a", 5, api.ErrName)
	checkFault(t, "$a=[z-a;$a=.;", 4, api.ErrRange)
	checkFault(t, strings.Repeat("(", 40)+"$x(", 40, api.ErrName)
	checkFault(t, strings.Repeat("(", 41)+"$x", 40, api.ErrDeep)
	checkFault(t, strings.Repeat(".", 101)+";$x;", 102, api.ErrName)
	checkFault(t, strings.Repeat(".;", 51)+"(", 103, api.ErrForm)
	checkFault(t, strings.Repeat("$x;", 700), 0, api.ErrLong)
}

// tokens hold all that the form knows, and what it does not.
var tokens = []string{"'", "a", "[", "^", "]", "-", "\\", "u0041", "n", "$", "$x", "=", ";", "(", ")", "|", "*", ".", " ", "#", "\n", "\xff", "\u00e9", "$x=.;"}

func TestP4AllShortSources(t *testing.T) {
	n := len(tokens)
	for i := range n * n * n * n {
		checkCompile(t, tokens[i%n]+tokens[i/n%n]+tokens[i/n/n%n]+tokens[i/n/n/n])
	}
}

// writer writes rules at random that have the form.
type writer struct {
	*rand.Rand
	strings.Builder
	names []string
	depth int
}

func (w *writer) gap() {
	if w.Intn(4) == 0 {
		w.WriteString(between[w.Intn(len(between))])
	}
}

func (w *writer) part(s string) {
	w.WriteString(s)
	w.gap()
}

func (w *writer) source(statements int) string {
	w.gap()
	for range statements {
		name := ""
		if w.Intn(3) == 0 {
			name = fmt.Sprintf("$%c%c", 'a'+w.Intn(5), 'a'+len(w.names))
			w.part(name)
			w.part("=")
		}
		w.expr()
		w.part(";")
		if name != "" {
			w.names = append(w.names, name)
		}
	}
	return w.String()
}

func (w *writer) expr() {
	w.depth++
	for w.item(); w.Intn(3) > 0; w.item() {
		if w.Intn(3) == 0 {
			w.part("|")
		}
	}
	w.depth--
}

func (w *writer) item() {
	switch k := w.Intn(8); {
	case k == 0:
		w.part(".")
	case k < 3 && len(w.names) > 0:
		w.part(w.names[w.Intn(len(w.names))])
	case k < 5 && w.depth < 5:
		w.part("(")
		w.expr()
		w.part(")")
	case k < 6:
		w.quote()
	default:
		w.set()
	}
	if w.Intn(3) == 0 {
		w.part([]string{"*", "+", "?"}[w.Intn(3)])
	}
}

func (w *writer) char(barred string) char {
	if w.Intn(3) == 0 {
		return escapes[w.Intn(len(escapes))]
	}
	for {
		r := askedRunes[w.Intn(len(askedRunes))]
		if !strings.ContainsRune(barred, r) && string(r) != "\ufffd" {
			return char{string(r), r}
		}
	}
}

func (w *writer) quote() {
	w.WriteString("'")
	for range 1 + w.Intn(3) {
		w.WriteString(w.char(`'\`).written)
	}
	w.part("'")
}

func (w *writer) set() {
	w.WriteString("[" + []string{"", "^"}[w.Intn(2)])
	for i := range w.Intn(4) {
		barred := `]-\`
		if i == 0 {
			barred += "^"
		}
		a, b := w.char(barred), w.char(`]-\`)
		if w.Intn(2) == 0 {
			w.WriteString(a.written)
			continue
		}
		if a.r > b.r && b.written != "^" {
			a, b = b, a
		}
		w.WriteString(a.written + "-" + b.written)
	}
	w.part("]")
}

// hurt changes a piece of a source.
func hurt(random *rand.Rand, source string) string {
	i := random.Intn(len(source) + 1)
	j := min(i+random.Intn(3), len(source))
	return source[:i] + []string{"", tokens[random.Intn(len(tokens))]}[random.Intn(2)] + source[j:]
}

func TestP4SourcesAtRandom(t *testing.T) {
	random := rand.New(rand.NewSource(5))
	seen := map[api.Errno]int{}
	for range 8000 {
		w := writer{Rand: random}
		source := w.source(random.Intn(8))
		for range 4 {
			checkCompile(t, source)
			seen[wantCompile(source).errno]++
			source = hurt(random, source)
		}
	}
	for _, e := range []api.Errno{api.OK, api.ErrForm, api.ErrName, api.ErrRange, api.ErrLarge} {
		if seen[e] < 100 {
			t.Errorf("only %d sources with %d", seen[e], e)
		}
	}
}

func TestP1AllSourcesOfTwoBytes(t *testing.T) {
	for i := range 1 << 16 {
		pair := string([]byte{byte(i >> 8), byte(i)})
		checkCompile(t, pair)
		if i%7 == 0 {
			checkCompile(t, "'"+pair+"';")
			checkCompile(t, "[a"+pair+"];")
		}
	}
}

func TestP2CompileKeepsNothing(t *testing.T) {
	for _, ahead := range []string{"$x=.;$x;", "((((", "$x=.;(", "[b-a];", strings.Repeat(" ", 2001), strings.Repeat(".;", 51)} {
		for _, source := range []string{"$x;", "$x=[a];$x;", strings.Repeat("(", 40) + "." + strings.Repeat(")", 40) + ";", "'a'", ""} {
			seam.Compile(ahead)
			checkCompile(t, source)
		}
	}
}

func FuzzCompile(f *testing.F) {
	f.Add("[a-z]+ ; [0-9]+ ('.' [0-9]+)? ; # numbers")
	f.Add("$w = [^\\u0041-\u4e16]; $w+ | ($w 'x\\'')* . ? ;")
	f.Add("'a\xff")
	f.Add(strings.Join(tokens, ""))
	for _, c := range escapes {
		f.Add("[" + c.written + "];")
	}
	f.Fuzz(func(t *testing.T, source string) { checkCompile(t, source) })
}

package seam_test

import (
	"fmt"
	"math"
	"math/rand"
	"slices"
	"strings"
	"testing"
	"unsafe"

	"seam/api"
	"seam/seam"
)

func loaded(t *testing.T, r *seam.Rules) *seam.Rules {
	t.Helper()
	pack := r.Pack()
	q, e := seam.Load(pack)
	if q == nil || e != api.OK {
		t.Fatalf("Load(%q) = %v, %d, want rules, 0", pack, q, e)
	}
	return q
}

// checkSameAnswers asks both rules the same.
func checkSameAnswers(t *testing.T, what string, got, want *seam.Rules, texts ...string) {
	t.Helper()
	for i, c := range someCalls(texts...) {
		if g, w := c(got), c(want); g != w {
			t.Errorf("of %s: call %d answers %s, want %s", what, i, g, w)
		}
	}
	for i, a := range askedRunes {
		for _, b := range askedRunes[:i] {
			if got.Same(a, b) != want.Same(a, b) {
				t.Errorf("of %s: Same(%x, %x) = %v, want %v", what, a, b, got.Same(a, b), want.Same(a, b))
			}
		}
	}
	long := strings.Repeat("a", 1001)
	checkTooLong(t, got, long)
	checkNoCursor(t, got, long)
}

// checkPacked checks that rules which went through Pack and Load, once and
// twice, answer as before, and are held against the oracle too.
func checkPacked(t *testing.T, source string, texts ...string) {
	t.Helper()
	r := compiled(t, source)
	once := loaded(t, r)
	twice := loaded(t, once)
	what := fmt.Sprintf("%q, packed", source)
	checkSameAnswers(t, what, once, r, texts...)
	checkSameAnswers(t, what+" twice", twice, r, texts...)
	rules := translated(source)
	for _, text := range texts {
		checkText(t, source, once, rules, text)
		checkText(t, source, twice, rules, text)
	}
}

// packedSources are rules of each kind, and the edges of what rules may be.
func packedSources() []string {
	var fifty, sets strings.Builder
	for i := range 50 {
		fmt.Fprintf(&fifty, "'\\u%04x' %s;", 0x4e00+i, []string{".", "'a'"}[i%2])
		fmt.Fprintf(&sets, "[a-%c\\u%04x]", 'b'+i%20, 0x4e00+i)
	}
	half, last := doubled(6)
	return []string{
		"", " ", "# nothing", "$x='ab';", "[];", ".;", "[^];", "[]*;", "'a'*;", "'a'?;",
		"[a-z]+ ; [0-9]+ ('.' [0-9]+)? ; # numbers", "$w = [a-z]; $w+; $w 'x'* ;", "(('a'|'b')* 'abb')+;",
		"'\u4e16' | '\U0001F600'+ ; .? 'x';", "[^\x00-\U0010FFFF]|[\ufffd];", "'\\n\\t\\'\\\\\\[\\]\\-\\^\\u0000';", "# \xff\xc3\n'\x00';#\xff",
		"[\\]\\-\\^a-c]+;[^^]'\u00e9';", "[\ud7ff-\ue000];", "$a='a'*;$b=$a$a|'b';$b+'c'?;$a;",
		strings.Repeat("'ab'", 50) + ";", strings.Repeat("'x'?", 100) + ";", "'" + strings.Repeat("\\u00e9", 100) + "';", strings.Repeat("[^a]*", 99) + ";.;",
		strings.Repeat("'a';", 49) + "'aa';", fifty.String(), sets.String() + "+;", half + last + ";",
		strings.Repeat("(", 40) + "'a'+" + strings.Repeat(" 'b'?)+", 40) + ";",
		"'a';" + strings.Repeat(" ", 1996), "[" + strings.Repeat("a-c", 665) + "];", "$" + strings.Repeat("n", 1900) + "='a';.;",
	}
}

var packedTexts = append(noText, "", "a", "ab12.5.c", "axx", "abbabba", "\u4e16x\U0001F600\U0001F600ax", "\ufffd\xffa", "\n\t'\\[]-^\x00", "\u00e9a^\u00e9", strings.Repeat("x", 130), strings.Repeat("ab", 60), "\u4e00a\u4e01a\u4e31ab\u4e30", strings.Repeat("\u00e9", 101))

func TestP9LoadedRulesAnswerAsBefore(t *testing.T) {
	for _, source := range packedSources() {
		checkPacked(t, source, packedTexts...)
	}
}

func TestP9CountAndPlaces(t *testing.T) {
	for _, c := range []struct {
		source        string
		count, places int
	}{{"", 0, 0}, {"$x='ab';", 0, 0}, {"'ab';.;", 2, 3}, {strings.Repeat("'ab';", 50), 50, 100}, {strings.Repeat(".", 100) + ";", 1, 100}, {"$x='abcde';$y=$x$x;$y$y;$x;", 2, 25}} {
		if q := loaded(t, compiled(t, c.source)); q.Count() != c.count || q.Places() != c.places {
			t.Errorf("of %q, loaded: %d rules, %d places, want %d, %d", c.source, q.Count(), q.Places(), c.count, c.places)
		}
	}
}

func TestP9RulesAtRandom(t *testing.T) {
	random := rand.New(rand.NewSource(17))
	for range 300 {
		checkPacked(t, ruleAtRandom(random), textAtRandom(random, 12), textAtRandom(random, 12))
	}
}

func TestP9CursorsOfLoadedRules(t *testing.T) {
	for _, source := range packedSources() {
		q, rules := loaded(t, compiled(t, source)), translated(source)
		for _, text := range []string{"", "ab12.5.c", "aab\u4e16xx\xff"} {
			checkCursor(t, q, text, wantOver(rules, text))
		}
	}
}

// checkKept checks of any rules, of which nothing is known, what the promises
// say of all.
func checkKept(t *testing.T, r *seam.Rules, texts ...string) {
	t.Helper()
	count, places := r.Count(), r.Places()
	if count < 0 || count > 50 || places < count || places > 100 || count == 0 && places > 0 {
		t.Fatalf("%d rules, %d places", count, places)
	}
	for i, a := range askedRunes {
		b := askedRunes[(i*7+3)%len(askedRunes)]
		if !r.Same(a, a) || r.Same(a, b) != r.Same(b, a) || !r.Same(-1, 0xD800) {
			t.Errorf("Same(%x, %x) = %v", a, b, r.Same(a, b))
		}
	}
	for _, text := range texts {
		checkKeptText(t, r, text)
	}
	long := strings.Repeat("a", 1001)
	checkTooLong(t, r, long)
	checkNoCursor(t, r, long)
}

func checkKeptText(t *testing.T, r *seam.Rules, text string) {
	t.Helper()
	_, starts := wantUnits(text)
	starts = append(starts, len(text))
	for i, start := range starts {
		s, e := r.Match(text, start)
		if s.From != start || e != api.OK || (s.Rule == -1) != (s.To == start) || s.Rule < -1 || s.Rule >= r.Count() || !slices.Contains(starts[i:], s.To) {
			t.Fatalf("Match(%q, %d) = %v, %d", text, start, s, e)
		}
		// What lies behind the end of a match does not matter to it.
		if again, _ := r.Match(text[:s.To], start); again != s {
			t.Errorf("Match(%q, %d) = %v, of more %v", text[:s.To], start, again, s)
		}
		for at := start; i+1 < len(starts) && at < starts[i+1]; at++ {
			checkMatch(t, "what was loaded", r, text, at, s)
		}
	}
	first, _ := r.Match(text, 0)
	last, _ := r.Match(text, len(text))
	checkMatch(t, "what was loaded", r, text, math.MinInt, first)
	checkMatch(t, "what was loaded", r, text, math.MaxInt, last)
	segments := cut(t, r, text)
	for _, s := range segments {
		want, _ := r.Match(text, s.From)
		if want.Rule == -1 {
			_, width := wantUnit(text[s.From:])
			want.To += width
		}
		if s != want {
			t.Errorf("segment %v of %q, want %v", s, text, want)
		}
	}
	checkCursor(t, r, text, &wantCursor{boundaries: boundaries(segments)})
}

// checkLoad checks that any bytes are either refused or rules that keep what
// is promised, and tells which.
func checkLoad(t *testing.T, s string, texts ...string) bool {
	t.Helper()
	r, e := seam.Load(s)
	if r == nil && e == api.ErrPack {
		return false
	}
	if r == nil || e != api.OK {
		t.Errorf("Load(%q) = %v, %d", s, r, e)
		return false
	}
	checkKept(t, r, texts...)
	checkSameAnswers(t, fmt.Sprintf("%q, packed", s), loaded(t, r), r, texts...)
	return true
}

func TestP9NoPackAtAll(t *testing.T) {
	for _, s := range append(noText, "", "x", "seam", "\x00", "\x00\x00\x00\x00", "[a-z]+;", "ErrPack", "{}", "\u4e16") {
		checkLoad(t, s, "", "ab1\xff\u00e9")
	}
	for b := range 256 {
		for _, n := range []int{1, 2, 3, 4, 8, 100, 1999, 2000, 2001, 5000, 1 << 16} {
			checkLoad(t, strings.Repeat(string([]byte{byte(b)}), n), "a1\xff")
		}
	}
}

func TestP9PacksCutShortOrMadeLonger(t *testing.T) {
	for _, source := range packedSources() {
		pack := compiled(t, source).Pack()
		step := 1 + len(pack)/60
		for i := 0; i < len(pack); i += step {
			for _, s := range []string{pack[:i], pack[i:], pack + pack[i:], pack[:i] + pack, pack[:i] + pack[i+1:], pack[:i] + "\x00" + pack[i:], pack[:i] + pack[i:i+1] + pack[i:]} {
				checkLoad(t, s, "ab1\xff")
			}
		}
		for _, more := range []string{"\x00", "a", ";", "\xff", " ", strings.Repeat(" ", 2000), strings.Repeat("\x00", 5000), strings.Repeat(pack, 60), "'a';"} {
			checkLoad(t, pack+more, "ab1\xff")
			checkLoad(t, more+pack, "ab1\xff")
		}
	}
}

func TestP9PacksWithAByteChanged(t *testing.T) {
	for _, source := range []string{"", "'a';", "[a-c]*'b';.;", "$w='a'|'b';($w'c')+;", "[^a\\u0041]?'\u4e16';"} {
		pack := compiled(t, source).Pack()
		for i := range len(pack) {
			for b := range 256 {
				checkLoad(t, pack[:i]+string([]byte{byte(b)})+pack[i+1:], "ab\u4e16\xff")
			}
		}
	}
	random := rand.New(rand.NewSource(18))
	for _, source := range packedSources() {
		bytes := []byte(compiled(t, source).Pack())
		for range min(len(bytes), 40) {
			i := random.Intn(len(bytes))
			old := bytes[i]
			bytes[i] = byte(random.Intn(256))
			checkLoad(t, string(bytes), "ab\u4e16\xff")
			bytes[i] = old
		}
	}
}

func TestP9BytesAtRandom(t *testing.T) {
	random := rand.New(rand.NewSource(19))
	for range 20000 {
		bytes := make([]byte, random.Intn(40))
		random.Read(bytes)
		checkLoad(t, string(bytes), "a\xff")
	}
	refused := 0
	for range 2000 {
		s := compiled(t, ruleAtRandom(random)).Pack()
		for range 1 + random.Intn(3) {
			s = hurt(random, s)
		}
		if !checkLoad(t, s, textAtRandom(random, 6)) {
			refused++
		}
	}
	t.Logf("of 2000 packs that were hurt %d were refused", refused)
}

func TestP2LoadedRulesAndWhatIsWrittenOver(t *testing.T) {
	const source = "[a-z]+;'\u00e9';"
	r, rules := compiled(t, source), translated(source)
	pack := r.Pack()
	q := loaded(t, r)
	for range 3 {
		for _, text := range memoryTexts {
			c := over(t, q, text)
			fill(cut(t, q, text), api.Segment{From: -7, To: 77, Rule: 777})
			fill(cut(t, r, text), api.Segment{From: -8, To: 88, Rule: 888})
			want := wantCut(rules, text)
			if got := cut(t, q, text); !slices.Equal(got, want) {
				t.Errorf("loaded, behind what was written: Cut(%q) = %v, want %v", text, got, want)
			}
			checkPath(t, text, forwards(c), boundaries(want)...)
			if r.Pack() != pack {
				t.Errorf("Pack = %q, it was %q", r.Pack(), pack)
			}
			seam.Load("\xff" + pack)
			seam.Load("")
		}
	}
}

func TestP2LoadedRulesDoNotMeddle(t *testing.T) {
	a, b := compiled(t, "'a'+;"), compiled(t, "'b'+;'a';")
	p, q := loaded(t, a), loaded(t, b)
	for range 3 {
		for _, r := range []*seam.Rules{a, p} {
			if got := pieces("aabb", cut(t, r, "aabb")); got != "aa:0 b:-1 b:-1" {
				t.Errorf("by the first: %s", got)
			}
		}
		for _, r := range []*seam.Rules{b, q} {
			if got := pieces("aabb", cut(t, r, "aabb")); got != "a:1 a:1 bb:0" {
				t.Errorf("by the second: %s", got)
			}
		}
	}
}

// What was handed in is not kept: not even as the memory of a string.
func TestP2SourcesAreNotKept(t *testing.T) {
	source := strings.Repeat("'a';", 10)
	r := compiled(t, source)
	pack := strings.Clone(r.Pack())
	q, _ := seam.Load(pack)
	for _, got := range []string{r.Pack(), q.Pack()} {
		if unsafe.StringData(got) == unsafe.StringData(source) || unsafe.StringData(got) == unsafe.StringData(pack) {
			t.Error("Pack gives out memory of what was handed in")
		}
	}
}

func TestP10LoadedRulesAndUnitsThatAreTheSame(t *testing.T) {
	random := rand.New(rand.NewSource(20))
	for range 300 {
		source, text := ruleAtRandom(random), textAtRandom(random, 20)
		q := loaded(t, compiled(t, source))
		other := exchanged(random, q, text)
		if got, want := cut(t, q, other), cut(t, q, text); !slices.Equal(got, want) {
			t.Errorf("by %q, loaded: %v of %q, but %v of %q", source, want, text, got, other)
		}
	}
}

func FuzzLoad(f *testing.F) {
	for _, source := range packedSources() {
		r, _, _ := seam.Compile(source)
		f.Add(r.Pack(), "ab1.\u4e16\xff")
	}
	f.Add("", "")
	f.Fuzz(func(t *testing.T, s, text string) { checkLoad(t, s, text[:min(len(text), 30)]) })
}

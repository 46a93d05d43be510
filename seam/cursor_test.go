package seam_test

import (
	"fmt"
	"math"
	"math/rand"
	"regexp"
	"slices"
	"strings"
	"sync"
	"testing"

	"seam/api"
	"seam/seam"
)

// A wantCursor goes through all boundaries whatever it is asked.
type wantCursor struct {
	boundaries []int
	at         int
}

func boundaries(segments []api.Segment) []int {
	list := []int{0}
	for _, s := range segments {
		list = append(list, s.To)
	}
	return list
}

func wantOver(rules []*regexp.Regexp, text string) *wantCursor {
	return &wantCursor{boundaries: boundaries(wantCut(rules, text))}
}

func (w *wantCursor) following(i int) int {
	for _, b := range w.boundaries {
		if b > i {
			w.at = b
			return b
		}
	}
	return -1
}

func (w *wantCursor) preceding(i int) int {
	for _, b := range slices.Backward(w.boundaries) {
		if b < i {
			w.at = b
			return b
		}
	}
	return -1
}

func (w *wantCursor) first() int {
	w.at = 0
	return 0
}

func (w *wantCursor) last() int {
	w.at = slices.Max(w.boundaries)
	return w.at
}

func number(yes bool) int {
	if yes {
		return 1
	}
	return 0
}

// A move is something that a cursor is told or asked.
type move struct {
	name string
	got  func(c *seam.Cursor, i int) int
	want func(w *wantCursor, i int) int
}

var following = move{"Following", func(c *seam.Cursor, i int) int { return c.Following(i) }, func(w *wantCursor, i int) int { return w.following(i) }}

var moves = []move{
	{"Current", func(c *seam.Cursor, i int) int { return c.Current() }, func(w *wantCursor, i int) int { return w.at }},
	{"First", func(c *seam.Cursor, i int) int { return c.First() }, func(w *wantCursor, i int) int { return w.first() }},
	{"Last", func(c *seam.Cursor, i int) int { return c.Last() }, func(w *wantCursor, i int) int { return w.last() }},
	{"Next", func(c *seam.Cursor, i int) int { return c.Next() }, func(w *wantCursor, i int) int { return w.following(w.at) }},
	{"Previous", func(c *seam.Cursor, i int) int { return c.Previous() }, func(w *wantCursor, i int) int { return w.preceding(w.at) }},
	following,
	{"Preceding", func(c *seam.Cursor, i int) int { return c.Preceding(i) }, func(w *wantCursor, i int) int { return w.preceding(i) }},
	{"IsBoundary", func(c *seam.Cursor, i int) int { return number(c.IsBoundary(i)) }, func(w *wantCursor, i int) int { return number(slices.Contains(w.boundaries, i)) }},
}

func checkMove(t *testing.T, m move, c *seam.Cursor, w *wantCursor, i int) {
	t.Helper()
	from := w.at
	got, want := m.got(c, i), m.want(w, i)
	if got != want || c.Current() != w.at {
		t.Fatalf("boundaries %v, it stood at %d: %s(%d) = %d, and it stands at %d, want %d, %d", w.boundaries, from, m.name, i, got, c.Current(), want, w.at)
	}
}

func over(t *testing.T, r *seam.Rules, text string) *seam.Cursor {
	t.Helper()
	c, e := r.Over(text)
	if c == nil || e != api.OK {
		t.Fatalf("Over(%q) = %v, %d, want a cursor, 0", text, c, e)
	}
	return c
}

// farPlaces lie outside of every text.
var farPlaces = []int{math.MinInt, math.MinInt + 1, math.MinInt32 - 1, math.MinInt32, -1001, -1000, -2, -1, 1001, 1002, math.MaxInt32, math.MaxInt32 + 1, math.MaxInt - 1, math.MaxInt}

func placesOf(text string) []int {
	places := slices.Clone(farPlaces)
	for i := range len(text) + 3 {
		places = append(places, i)
	}
	return places
}

// checkCursor tells a cursor every move, wherever it may stand.
func checkCursor(t *testing.T, r *seam.Rules, text string, want *wantCursor) {
	t.Helper()
	c := over(t, r, text)
	places := placesOf(text)
	for _, start := range want.boundaries {
		for _, m := range moves {
			for _, i := range places {
				checkMove(t, following, c, want, start-1)
				checkMove(t, m, c, want, i)
			}
		}
	}
}

func checkCursors(t *testing.T, source string, texts ...string) {
	t.Helper()
	r, rules := compiled(t, source), translated(source)
	for _, text := range texts {
		checkCursor(t, r, text, wantOver(rules, text))
	}
}

// forwards and backwards are the boundaries as a cursor finds them from the
// one end to the other.
func forwards(c *seam.Cursor) []int {
	list := []int{c.First()}
	for len(list) < 2000 {
		b := c.Next()
		if b == api.Done {
			break
		}
		list = append(list, b)
	}
	return list
}

func backwards(c *seam.Cursor) []int {
	list := []int{c.Last()}
	for len(list) < 2000 {
		b := c.Previous()
		if b == api.Done {
			break
		}
		list = append(list, b)
	}
	return list
}

func TestP8DocumentExample(t *testing.T) {
	c := over(t, compiled(t, "[a-z]+ ; [0-9]+ ('.' [0-9]+)? ; # numbers"), "ab 1")
	for i, got := range []int{c.Next(), c.Next(), c.Following(0), c.Preceding(-5), c.Current(), c.Following(-5), c.Current(), number(c.IsBoundary(1))} {
		if want := []int{2, 3, 2, api.Done, 2, 0, 0, 0}[i]; got != want {
			t.Errorf("answer %d: %d, want %d", i, got, want)
		}
	}
}

func TestP8ANewCursorStandsAtNought(t *testing.T) {
	for _, source := range []string{"", ".;", ".*;", "'a'+;", "[]*;"} {
		r := compiled(t, source)
		for _, text := range append(noText, "", "a", "ab", "\u4e16", strings.Repeat("a", 1000)) {
			if c := over(t, r, text); c.Current() != 0 || c.Current() != 0 {
				t.Errorf("by %q over %q it stands at %d", source, text, c.Current())
			}
			if c := over(t, r, text); c.Previous() != api.Done || c.Current() != 0 {
				t.Errorf("by %q over %q it has gone back to %d", source, text, c.Current())
			}
		}
	}
}

func checkPath(t *testing.T, what string, got []int, want ...int) {
	t.Helper()
	if !slices.Equal(got, want) {
		t.Errorf("%s: %v, want %v", what, got, want)
	}
}

func TestP8FromEndToEnd(t *testing.T) {
	c := over(t, compiled(t, "[a-z]+; [0-9]+; '\u4e16'+;"), "ab 12\u4e16\u4e16\xff\u00e9x")
	checkPath(t, "first and last", []int{c.Last(), c.Current(), c.Last(), c.First(), c.Current(), c.First(), c.Last()}, 15, 15, 15, 0, 0, 0, 15)
	checkPath(t, "forwards", forwards(c), 0, 2, 3, 5, 11, 12, 14, 15)
	for range 3 {
		checkPath(t, "at the end", []int{c.Next(), c.Current(), c.Following(15), c.Current(), c.Following(math.MaxInt), c.Current()}, -1, 15, -1, 15, -1, 15)
	}
	checkPath(t, "backwards", backwards(c), 15, 14, 12, 11, 5, 3, 2, 0)
	for range 3 {
		checkPath(t, "at the beginning", []int{c.Previous(), c.Current(), c.Preceding(0), c.Current(), c.Preceding(math.MinInt), c.Current()}, -1, 0, -1, 0, -1, 0)
	}
	checkPath(t, "to and fro", []int{c.Next(), c.Next(), c.Previous(), c.Next(), c.Next(), c.Previous(), c.Previous(), c.Previous(), c.Previous()}, 2, 3, 2, 3, 5, 3, 2, 0, -1)
}

func TestP8FollowingAndPreceding(t *testing.T) {
	r := compiled(t, "[a-z]+; '\u4e16' .;")
	const text = "abc\u4e16\U0001F600 \xff"
	for _, x := range []struct{ at, following, preceding int }{
		{math.MinInt, 0, -1}, {-2, 0, -1}, {-1, 0, -1}, {0, 3, -1}, {1, 3, 0}, {2, 3, 0}, {3, 10, 0}, {4, 10, 3}, {5, 10, 3}, {6, 10, 3}, {7, 10, 3}, {9, 10, 3}, {10, 11, 3}, {11, 12, 10}, {12, -1, 11}, {13, -1, 12}, {1000, -1, 12}, {math.MaxInt, -1, 12},
	} {
		for _, start := range []int{0, 3, 10, 11, 12} {
			c := over(t, r, text)
			c.Following(start - 1)
			stands := x.following
			if stands == -1 {
				stands = start
			}
			checkPath(t, fmt.Sprint("following ", x.at), []int{c.Current(), c.Following(x.at), c.Current()}, start, x.following, stands)
			c.First()
			c.Following(start - 1)
			stands = x.preceding
			if stands == -1 {
				stands = start
			}
			checkPath(t, fmt.Sprint("preceding ", x.at), []int{c.Current(), c.Preceding(x.at), c.Current()}, start, x.preceding, stands)
		}
	}
}

func TestP8IsBoundaryMovesNothing(t *testing.T) {
	const text = "abc\u4e16\U0001F600 \xff"
	c := over(t, compiled(t, "[a-z]+; '\u4e16' .;"), text)
	for _, stands := range []int{0, 3, 10, 11, 12} {
		c.Following(stands - 1)
		for _, i := range placesOf(text) {
			if c.IsBoundary(i) != slices.Contains([]int{0, 3, 10, 11, 12}, i) || c.Current() != stands {
				t.Errorf("IsBoundary(%d) = %v, it stands at %d, want %d", i, c.IsBoundary(i), c.Current(), stands)
			}
		}
	}
}

func TestP8EmptyText(t *testing.T) {
	for _, source := range []string{"", ".;", ".*;", "'a'*;'b'?;", "[];", "[]*;"} {
		checkCursors(t, source, "")
		c := over(t, compiled(t, source), "")
		checkPath(t, source, []int{c.Next(), c.Previous(), c.First(), c.Last(), c.Following(-1), c.Following(0), c.Preceding(0), c.Preceding(1), c.Current(), number(c.IsBoundary(0)), number(c.IsBoundary(1)), number(c.IsBoundary(-1))}, -1, -1, 0, 0, 0, -1, -1, 0, 0, 1, 0, 0)
	}
}

func TestP8EveryMoveFromEverywhere(t *testing.T) {
	const words = "[a-z]+; [0-9]+ ('.' [0-9]+)?; ' '+;"
	checkCursors(t, words, "a", " ", ".", "ab12.5.c", "ab  12. 3.4x", "\u00e9\u4e16\U0001F600", "a\xff\xc3b", "1.1.1.1")
	checkCursors(t, "", append(noText, "a", "abc", "\u00e9\u4e16\U0001F600x", "\ufffd\xff\ufffd")...)
	checkCursors(t, ".*;", "a", "abc", "\u00e9\xff\u4e16")
	checkCursors(t, "..;'\u4e16'...;", "abcde", "\u00e9\xff\u4e16a\u4e16\u4e16")
	checkCursors(t, "'a'*'b';", "aaac", "aabaacab", "ba")
}

func TestP8LongTexts(t *testing.T) {
	for _, source := range []string{"", "'a'+;", "'aa';", ".*;", ".*'b';", "[^\\ufffd]+;"} {
		r, rules := compiled(t, source), translated(source)
		for _, piece := range []string{"a", "ab", "\u00e9", "\U0001F600", "\xff", "aaaaaaa\xff", "\u4e16ab", "\ufffd\xff"} {
			text := strings.Repeat(piece, 1000)[:1000]
			want := boundaries(wantCut(rules, text))
			c := over(t, r, text)
			checkPath(t, source, forwards(c), want...)
			slices.Reverse(want)
			checkPath(t, source, backwards(c), want...)
			checkPath(t, source, []int{c.Last(), c.Following(999), c.Preceding(1001), c.Following(1000), c.Current()}, 1000, 1000, 1000, -1, 1000)
			checkNoCursor(t, r, text+"a")
			checkNoCursor(t, r, "\xff"+text)
			checkNoCursor(t, r, text+text)
		}
	}
	checkNoCursor(t, compiled(t, ".;"), strings.Repeat("a", 999)+"\u00e9")
}

func checkNoCursor(t *testing.T, r *seam.Rules, text string) {
	t.Helper()
	if c, e := r.Over(text); c != nil || e != api.ErrLong {
		t.Errorf("Over of %d bytes = %v, %d, want nil, %d", len(text), c, e, api.ErrLong)
	}
}

// somewhere is a place in a text, or near it, or far away.
func somewhere(random *rand.Rand, text string) int {
	if random.Intn(5) == 0 {
		return farPlaces[random.Intn(len(farPlaces))]
	}
	return random.Intn(len(text)+5) - 2
}

func TestP8MovesAtRandom(t *testing.T) {
	random := rand.New(rand.NewSource(13))
	for range 2000 {
		source, text := ruleAtRandom(random), textAtRandom(random, 25)
		c, want := over(t, compiled(t, source), text), wantOver(translated(source), text)
		for range 60 {
			checkMove(t, moves[random.Intn(len(moves))], c, want, somewhere(random, text))
		}
	}
}

// Of each two of these cursors the rules, the text or both are the same; they
// are told things by turns, with other calls between.
func TestP8ManyCursorsByTurns(t *testing.T) {
	random := rand.New(rand.NewSource(14))
	sources := []string{"", "[ab]+;", "'ab';.;", "'a'+;'b'+;"}
	texts := []string{"", "aabab\u00e9b", "abc\xffabab", strings.Repeat("aab", 30)}
	var rules []*seam.Rules
	var cursors []*seam.Cursor
	var wants []*wantCursor
	for i, source := range slices.Concat(sources, sources) {
		if i < len(sources) {
			rules = append(rules, compiled(t, source))
		}
		for _, text := range texts {
			cursors = append(cursors, over(t, rules[i%len(sources)], text))
			wants = append(wants, wantOver(translated(source), text))
		}
	}
	for range 20000 {
		i := random.Intn(len(cursors))
		checkMove(t, moves[random.Intn(len(moves))], cursors[i], wants[i], somewhere(random, texts[3]))
		if random.Intn(50) == 0 {
			r, text := rules[random.Intn(len(rules))], texts[random.Intn(len(texts))]
			fill(cut(t, r, text), api.Segment{From: -7, To: 77, Rule: 777})
			over(t, r, text).Last()
			checkNoCursor(t, r, strings.Repeat("a", 1001))
		}
	}
	for i, c := range cursors {
		if c.Current() != wants[i].at {
			t.Errorf("cursor %d stands at %d, want %d", i, c.Current(), wants[i].at)
		}
	}
}

func TestP2CursorsAndListsWrittenOver(t *testing.T) {
	const source = "[a-z]+;'\u00e9';"
	r, rules := compiled(t, source), translated(source)
	for _, text := range memoryTexts {
		before := cut(t, r, text)
		c, want := over(t, r, text), wantOver(rules, text)
		runes, starts, _ := seam.Units(text)
		fill(before, api.Segment{From: -7, To: 77, Rule: 777})
		fill(runes, -7)
		fill(starts, -7)
		fill(cut(t, r, text), api.Segment{From: -7, To: 77, Rule: 777})
		checkPath(t, text, forwards(c), want.boundaries...)
		checkPath(t, text, forwards(over(t, r, text)), want.boundaries...)
		checkText(t, source, r, rules, text[:min(len(text), 40)])
	}
}

func TestP2CursorsAtTheSameTime(t *testing.T) {
	r := compiled(t, "('a'|'b')*'abb';[a-c]+'d'?;")
	text := strings.Repeat("abbdcab ", 20)
	want := boundaries(cut(t, r, text))
	var group sync.WaitGroup
	for range 8 {
		group.Go(func() {
			for range 10 {
				c, _ := r.Over(text)
				if got := forwards(c); !slices.Equal(got, want) {
					t.Errorf("boundaries %v, want %v", got, want)
				}
			}
		})
	}
	group.Wait()
}

func TestP10BackwardsAsForwards(t *testing.T) {
	random := rand.New(rand.NewSource(15))
	for range 2000 {
		source, text := ruleAtRandom(random), textAtRandom(random, 40)
		r := compiled(t, source)
		c := over(t, r, text)
		there, back := forwards(c), backwards(c)
		slices.Reverse(back)
		checkPath(t, fmt.Sprintf("by %q backwards in %q", source, text), back, there...)
		checkPath(t, fmt.Sprintf("by %q forwards in %q", source, text), there, boundaries(cut(t, r, text))...)
		checkNoneBetween(t, c, len(text))
	}
}

// checkNoneBetween checks that from no place on the way there leads over
// other boundaries than the way back.
func checkNoneBetween(t *testing.T, c *seam.Cursor, length int) {
	t.Helper()
	for i := -1; i <= length+1; i++ {
		if above := c.Following(i); above != api.Done && c.Preceding(above) > i {
			t.Errorf("%d follows %d, but on the way back there is %d", above, i, c.Current())
		}
		if below := c.Preceding(i); below != api.Done && c.Following(below) != api.Done && c.Current() < i {
			t.Errorf("%d precedes %d, but on the way back there is %d", below, i, c.Current())
		}
	}
}

func TestP10CursorsWhereUnitsAreTheSame(t *testing.T) {
	random := rand.New(rand.NewSource(16))
	for range 500 {
		source, text := ruleAtRandom(random), textAtRandom(random, 20)
		r := compiled(t, source)
		other := exchanged(random, r, text)
		checkPath(t, fmt.Sprintf("by %q in %q for %q", source, other, text), forwards(over(t, r, other)), forwards(over(t, r, text))...)
	}
}

func FuzzCursor(f *testing.F) {
	f.Add("[a-z]+ ; [0-9]+ ('.' [0-9]+)? ; # numbers", "ab 12.5.c\xff", []byte("\x03\x03\x05\x06\x04\x02\x04"), 3)
	f.Add("", "", []byte("\x00\x01\x02\x03\x04\x05\x06\x07"), math.MinInt)
	f.Fuzz(func(t *testing.T, source, text string, told []byte, i int) {
		if wantCompile(source).errno != api.OK {
			return
		}
		r := compiled(t, source)
		if len(text) > 1000 {
			checkNoCursor(t, r, text)
			return
		}
		c, want := over(t, r, text), wantOver(translated(source), text)
		for k, b := range told {
			m := moves[int(b)%len(moves)]
			checkMove(t, m, c, want, i)
			checkMove(t, m, c, want, int(b)/len(moves)+k-1)
		}
	})
}

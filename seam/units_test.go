package seam_test

import (
	"slices"
	"strings"
	"testing"

	"seam/api"
	"seam/seam"
)

const bad = 0xFFFD

// wantUnits works the units out from the bits of the bytes, as the document
// words it, so that Units is not held against Go's own decoding.
func wantUnits(text string) ([]rune, []int) {
	var runes []rune
	var starts []int
	for at := 0; at < len(text); {
		r, width := wantUnit(text[at:])
		runes = append(runes, r)
		starts = append(starts, at)
		at += width
	}
	return runes, starts
}

func wantUnit(rest string) (rune, int) {
	lead := rest[0]
	switch {
	case lead < 0x80:
		return rune(lead), 1
	case lead&0xE0 == 0xC0:
		return wantWide(rest, rune(lead&0x1F), 2, 0x80, 0x7FF)
	case lead&0xF0 == 0xE0:
		return wantWide(rest, rune(lead&0x0F), 3, 0x800, 0xFFFF)
	case lead&0xF8 == 0xF0:
		return wantWide(rest, rune(lead&0x07), 4, 0x10000, 0x10FFFF)
	}
	return bad, 1
}

func wantWide(rest string, r rune, width int, least, greatest rune) (rune, int) {
	if len(rest) < width {
		return bad, 1
	}
	for i := 1; i < width; i++ {
		if rest[i]&0xC0 != 0x80 {
			return bad, 1
		}
		r = r<<6 | rune(rest[i]&0x3F)
	}
	if r < least || r > greatest || r >= 0xD800 && r <= 0xDFFF {
		return bad, 1
	}
	return r, width
}

// written writes a rune in so many bytes, well-formed or not.
func written(r rune, width int) string {
	if width == 1 {
		return string([]byte{byte(r)})
	}
	lead := []byte{2: 0xC0, 3: 0xE0, 4: 0xF0}[width]
	b := make([]byte, width)
	for i := width - 1; i > 0; i-- {
		b[i] = 0x80 | byte(r&0x3F)
		r >>= 6
	}
	b[0] = lead | byte(r)
	return string(b)
}

func checkUnits(t *testing.T, text string, runes []rune, starts []int) {
	t.Helper()
	r, s, e := seam.Units(text)
	if !slices.Equal(r, runes) || !slices.Equal(s, starts) || e != api.OK {
		t.Errorf("Units(%q) = %x, %v, %d, want %x, %v, 0", text, r, s, e, runes, starts)
	}
}

func checkWanted(t *testing.T, text string) {
	t.Helper()
	runes, starts := wantUnits(text)
	checkUnits(t, text, runes, starts)
}

func checkLong(t *testing.T, text string) {
	t.Helper()
	r, s, e := seam.Units(text)
	if len(r) != 0 || len(s) != 0 || e != api.ErrLong {
		t.Errorf("Units of %d bytes: %d runes, %d starts, %d, want none, none, %d", len(text), len(r), len(s), e, api.ErrLong)
	}
}

func TestP3OrdinaryTexts(t *testing.T) {
	checkUnits(t, "", nil, nil)
	checkUnits(t, "a", []rune{'a'}, []int{0})
	checkUnits(t, "ab 12.5\n", []rune{'a', 'b', ' ', '1', '2', '.', '5', 10}, []int{0, 1, 2, 3, 4, 5, 6, 7})
	checkUnits(t, "na\u00efve \u4e16\u754c", []rune{'n', 'a', 0xEF, 'v', 'e', ' ', 0x4E16, 0x754C}, []int{0, 1, 2, 4, 5, 6, 7, 10})
	checkUnits(t, "x\U0001F600y", []rune{'x', 0x1F600, 'y'}, []int{0, 1, 5})
	checkUnits(t, "e\u0301", []rune{'e', 0x301}, []int{0, 1})
	checkUnits(t, "\r\n\x00", []rune{13, 10, 0}, []int{0, 1, 2})
	checkUnits(t, "\ufeffa", []rune{0xFEFF, 'a'}, []int{0, 3})
}

func TestP3DocumentExample(t *testing.T) {
	checkUnits(t, "a\u00e9\xff\xc3", []rune{0x61, 0xE9, bad, bad}, []int{0, 1, 3, 4})
}

func TestP3EdgesOfWidths(t *testing.T) {
	for _, c := range []struct {
		text string
		r    rune
	}{
		{"\x00", 0}, {"\x7f", 0x7F},
		{"\xc2\x80", 0x80}, {"\xdf\xbf", 0x7FF},
		{"\xe0\xa0\x80", 0x800}, {"\xef\xbf\xbf", 0xFFFF},
		{"\xf0\x90\x80\x80", 0x10000}, {"\xf4\x8f\xbf\xbf", 0x10FFFF},
		{"\xed\x9f\xbf", 0xD7FF}, {"\xee\x80\x80", 0xE000},
	} {
		w := len(c.text)
		checkUnits(t, c.text, []rune{c.r}, []int{0})
		checkUnits(t, c.text+c.text+"z", []rune{c.r, c.r, 'z'}, []int{0, w, 2 * w})
		checkUnits(t, "\x80"+c.text+"\xff", []rune{bad, c.r, bad}, []int{0, 1, 1 + w})
	}
}

func TestP3EveryRune(t *testing.T) {
	edges := []struct {
		least, behind rune
		width         int
	}{{0, 0x80, 1}, {0x80, 0x800, 2}, {0x800, 0xD800, 3}, {0xE000, 0x10000, 3}, {0x10000, 0x110000, 4}}
	for _, c := range edges {
		for r := c.least; r < c.behind; {
			var text strings.Builder
			var runes []rune
			var starts []int
			for ; r < c.behind && text.Len()+c.width <= api.MaxText; r++ {
				runes = append(runes, r)
				starts = append(starts, text.Len())
				text.WriteString(written(r, c.width))
			}
			checkUnits(t, text.String(), runes, starts)
		}
	}
}

// apart checks that each byte of a text is a unit by itself, with U+FFFD,
// alone and between well-formed runes.
func apart(t *testing.T, text string) {
	t.Helper()
	var runes []rune
	var starts []int
	for i := range len(text) {
		runes = append(runes, bad)
		starts = append(starts, i)
	}
	checkUnits(t, text, runes, starts)
	for i := range starts {
		starts[i] += 2
	}
	runes = slices.Concat([]rune{0xE9}, runes, []rune{'a', 0x4E16})
	starts = slices.Concat([]int{0}, starts, []int{2 + len(text), 3 + len(text)})
	checkUnits(t, "\u00e9"+text+"a\u4e16", runes, starts)
}

func TestP3LoneBytes(t *testing.T) {
	for b := 0x80; b <= 0xFF; b++ {
		apart(t, string([]byte{byte(b)}))
	}
	apart(t, "\x80\xbf\x80\xbf\x80")
	apart(t, "\xff\xfe\xf8\xfc")
	checkUnits(t, "\u00e9\x80", []rune{0xE9, bad}, []int{0, 2})
	checkUnits(t, "\U0001F600\xbf\xbf", []rune{0x1F600, bad, bad}, []int{0, 4, 5})
}

func TestP3CutOffRunes(t *testing.T) {
	for _, whole := range []string{"\u0080", "\u07ff", "\u0800", "\u4e16", "\ud7ff", "\ue000", "\uffff", "\U00010000", "\U0001F600", "\U0010FFFF"} {
		for n := 1; n < len(whole); n++ {
			apart(t, whole[:n])
			apart(t, whole[:n]+whole[:n])
			apart(t, whole[n:])
		}
	}
	checkUnits(t, "\xe4\xb8\u4e16", []rune{bad, bad, 0x4E16}, []int{0, 1, 2})
	checkUnits(t, "\xf0\x9f\x98a", []rune{bad, bad, bad, 'a'}, []int{0, 1, 2, 3})
}

func TestP3OverlongForms(t *testing.T) {
	for _, c := range []struct {
		greatest rune
		width    int
	}{{0x7F, 2}, {0x7FF, 3}, {0xFFFF, 4}} {
		for r := rune(0); r <= c.greatest; r++ {
			apart(t, written(r, c.width))
		}
	}
	apart(t, "\xf8\x80\x80\x80\x80")
	apart(t, "\xfc\x80\x80\x80\x80\x80")
}

func TestP3Surrogates(t *testing.T) {
	for r := rune(0xD800); r <= 0xDFFF; r++ {
		apart(t, written(r, 3))
	}
	apart(t, written(0xD83D, 3)+written(0xDE00, 3))
}

func TestP3AboveTheGreatestRune(t *testing.T) {
	for r := rune(0x110000); r <= 0x1FFFFF; r += 0x3F {
		apart(t, written(r, 4))
	}
	apart(t, written(0x110000, 4))
	apart(t, written(0x1FFFFF, 4))
}

func TestP3ReplacementRuneItself(t *testing.T) {
	checkUnits(t, "\xef\xbf\xbd", []rune{bad}, []int{0})
	checkUnits(t, "\xef\xbf\xbda\xef\xbf\xbd\xef\xbf\xbd", []rune{bad, 'a', bad, bad}, []int{0, 3, 4, 7})
	checkUnits(t, "\xff\xef\xbf\xbd\xef\xbf", []rune{bad, bad, bad, bad}, []int{0, 1, 4, 5})
}

func TestP3MostBytes(t *testing.T) {
	for _, piece := range []string{"a", "\x00", "\xff", "\x80", "\u00e9", "\xe4\xb8", "\U0001F600", "\xf0\x9f\x98a", "\ufffd\xff"} {
		text := strings.Repeat(piece, 1000/len(piece))
		if len(text) != 1000 {
			t.Fatalf("%q gives %d bytes, not 1000", piece, len(text))
		}
		checkWanted(t, text)
		checkWanted(t, text[1:])
		checkLong(t, text+"a")
		checkLong(t, "a"+text)
		checkLong(t, text+"\x80")
	}
	cut := strings.Repeat("a", 999) + "\u00e9"
	checkLong(t, cut)
	checkWanted(t, cut[:1000])
}

func TestP3TooLong(t *testing.T) {
	for _, n := range []int{1001, 1002, 1003, 1999, 2000, 2001, 1 << 16, 1 << 20} {
		checkLong(t, strings.Repeat("a", n))
		checkLong(t, strings.Repeat("\xff", n))
		checkLong(t, strings.Repeat("\U0001F600", n)[:n])
	}
}

// fill writes a list over, its spare room too.
func fill[T any](list []T, mark T) {
	list = list[:cap(list)]
	for i := range list {
		list[i] = mark
	}
}

var memoryTexts = []string{"", "a", "ab", "a\u00e9\xff\xc3", "\u4e16\U0001F600x", strings.Repeat("q", 63), strings.Repeat("\u00e9", 500), strings.Repeat("z", 1000), "ab"}

func TestP2WrittenOver(t *testing.T) {
	for range 3 {
		for _, text := range memoryTexts {
			checkWanted(t, text)
			r, s, _ := seam.Units(text)
			fill(r, -7)
			fill(s, -7)
			checkWanted(t, text)
		}
	}
}

func TestP2ListsShareNoMemory(t *testing.T) {
	var runes [][]rune
	var starts [][]int
	for range 2 {
		for _, text := range memoryTexts {
			r, s, _ := seam.Units(text)
			runes = append(runes, r)
			starts = append(starts, s)
		}
	}
	for i := range runes {
		fill(runes[i], rune(-1-i))
		fill(starts[i], -1-i)
	}
	for i := range runes {
		checkFilled(t, runes[i], rune(-1-i))
		checkFilled(t, starts[i], -1-i)
	}
}

func checkFilled[T comparable](t *testing.T, list []T, mark T) {
	t.Helper()
	for i, v := range list[:cap(list)] {
		if v != mark {
			t.Errorf("place %d of %d: %v, want %v: it is another list's too", i, cap(list), v, mark)
			return
		}
	}
}

func TestP2AppendedToLists(t *testing.T) {
	r, s, _ := seam.Units("abc")
	q, u, _ := seam.Units("abc")
	r, s = append(r, 'x', 'y'), append(s, 90, 91)
	q, u = append(q, 'v', 'w'), append(u, 80, 81)
	if string(r) != "abcxy" || string(q) != "abcvw" {
		t.Errorf("runes: %q, %q", string(r), string(q))
	}
	if !slices.Equal(s, []int{0, 1, 2, 90, 91}) || !slices.Equal(u, []int{0, 1, 2, 80, 81}) {
		t.Errorf("starts: %v, %v", s, u)
	}
}

func TestP2CallsAheadDoNotMatter(t *testing.T) {
	for _, ahead := range append(memoryTexts, strings.Repeat("a", 1001)) {
		for _, text := range memoryTexts {
			seam.Units(ahead)
			checkWanted(t, text)
		}
	}
}

// edgeBytes are the least and greatest bytes of each kind that UTF-8 knows.
const edgeBytes = "\x00a\x7f\x80\x8f\x90\x9f\xa0\xbf\xc0\xc1\xc2\xdf\xe0\xe1\xec\xed\xee\xef\xf0\xf1\xf3\xf4\xf5\xf7\xf8\xfe\xff"

func TestP1AllOfFourEdgeBytes(t *testing.T) {
	n := len(edgeBytes)
	for i := range n * n * n * n {
		text := string([]byte{edgeBytes[i%n], edgeBytes[i/n%n], edgeBytes[i/n/n%n], edgeBytes[i/n/n/n]})
		checkWanted(t, text)
	}
}

func TestP1AllOfTwoBytes(t *testing.T) {
	for i := range 1 << 16 {
		text := string([]byte{byte(i >> 8), byte(i)})
		checkWanted(t, text)
	}
}

func TestP1EachByteAtManyLengths(t *testing.T) {
	for b := range 256 {
		long := strings.Repeat(string([]byte{byte(b)}), 1100)
		for _, n := range []int{0, 1, 2, 3, 4, 5, 999, 1000} {
			checkWanted(t, long[:n])
		}
		checkLong(t, long[:1001])
		checkLong(t, long)
	}
}

func FuzzUnits(f *testing.F) {
	for _, text := range memoryTexts {
		f.Add(text)
	}
	f.Add(edgeBytes)
	f.Add(strings.Repeat("\xff", 1001))
	f.Fuzz(func(t *testing.T, text string) {
		if len(text) > 1000 {
			checkLong(t, text)
			return
		}
		checkWanted(t, text)
	})
}

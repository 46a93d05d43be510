package runes_test

import (
	"math"
	"math/rand"
	"slices"
	"testing"

	"seam/runes"
)

var noRunes = []rune{math.MinInt32, -1, 0xD800, 0xDBFF, 0xDC00, 0xDFFF, 0x110000, math.MaxInt32}

func checkHas(t *testing.T, s runes.Set, want bool, numbers ...rune) {
	t.Helper()
	for _, r := range numbers {
		if s.Has(r) != want {
			t.Errorf("%v has %x: %v, want %v", s, r, !want, want)
		}
	}
}

func TestOfAnyNumberOfRanges(t *testing.T) {
	checkHas(t, runes.Of(), false, append(noRunes, 0, 'a', 0x10FFFF)...)
	checkHas(t, runes.Of(runes.One('b')), true, 'b')
	checkHas(t, runes.Of(runes.One('b')), false, append(noRunes, 'a', 'c')...)
	several := []runes.Range{{First: 'm', Last: 'p'}, runes.One('b'), {First: 'd', Last: 'f'}, {First: 'e', Last: 'g'}}
	in, out := []rune{'b', 'd', 'e', 'f', 'g', 'm', 'n', 'p'}, []rune{'a', 'c', 'h', 'l', 'q', 0, 0x10FFFF}
	checkHas(t, runes.Of(several...), true, in...)
	checkHas(t, runes.Of(several...), false, append(noRunes, out...)...)
	checkHas(t, runes.Except(several...), false, in...)
	checkHas(t, runes.Except(several...), true, append(noRunes, out...)...)
}

func TestExceptNothingIsEverything(t *testing.T) {
	checkHas(t, runes.Except(), true, append(noRunes, 0, 'a', 0xFFFD, 0x10FFFF)...)
}

func TestWhatIsNoRuneIsInNoRange(t *testing.T) {
	whole := runes.Range{First: 0, Last: 0x10FFFF}
	checkHas(t, runes.Of(whole), true, 0, 'a', 0xD7FF, 0xE000, 0x10FFFF)
	checkHas(t, runes.Of(whole), false, noRunes...)
	checkHas(t, runes.Except(whole), false, 0, 'a', 0xD7FF, 0xE000, 0x10FFFF)
	checkHas(t, runes.Except(whole), true, noRunes...)
}

func TestTheListStaysTheCallers(t *testing.T) {
	list := []runes.Range{{First: 'd', Last: 'f'}, {First: 'a', Last: 'c'}, {First: 'b', Last: 'd'}}
	before := slices.Clone(list)
	of, except := runes.Of(list...), runes.Except(list...)
	if !slices.Equal(list, before) {
		t.Errorf("the list is now %v, want %v", list, before)
	}
	for i := range list {
		list[i] = runes.One('x')
	}
	checkHas(t, of, true, 'a', 'b', 'c', 'd', 'e', 'f')
	checkHas(t, of, false, 'x')
	checkHas(t, except, false, 'a', 'b', 'c', 'd', 'e', 'f')
	checkHas(t, except, true, 'x')
}

// Sets of ranges in any order, which touch, overlap, lie within one another
// or are the same, against going through all of them.
func TestRangesAtRandom(t *testing.T) {
	random := rand.New(rand.NewSource(3))
	for range 3000 {
		var list []runes.Range
		for range random.Intn(12) {
			first := 'a' + rune(random.Intn(40))
			list = append(list, runes.Range{First: first, Last: first + rune(random.Intn(6))})
		}
		of, except := runes.Of(list...), runes.Except(list...)
		for r := rune('a' - 2); r < 'a'+50; r++ {
			want := slices.ContainsFunc(list, func(g runes.Range) bool { return g.First <= r && r <= g.Last })
			if of.Has(r) != want || except.Has(r) == want {
				t.Errorf("of %v: %x is in it: %v, except: %v, want %v", list, r, of.Has(r), except.Has(r), want)
			}
		}
	}
}

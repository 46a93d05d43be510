package match

import (
	"testing"

	"seam/api"
)

func TestBitsAreApart(t *testing.T) {
	for i := range api.MaxPlaces {
		b := Bits{}.with(i)
		for j := range api.MaxPlaces {
			if b.has(j) != (i == j) {
				t.Errorf("with %d it has %d: %v", i, j, b.has(j))
			}
			both := b.or(Bits{}.with(j))
			if both != b.with(j) || !both.has(i) || !both.has(j) || both.or(b) != both {
				t.Errorf("of %d and %d: %x", i, j, both)
			}
		}
		if (Bits{}).or(b) != b || b.or(Bits{}) != b || b == (Bits{}) {
			t.Errorf("of %d alone: %x", i, b)
		}
	}
}

func TestBitsAreValues(t *testing.T) {
	b := Bits{}.with(3)
	b.with(70)
	b.or(Bits{}.with(80))
	if b != (Bits{}.with(3)) {
		t.Errorf("what was made of it changed it: %x", b)
	}
}

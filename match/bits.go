package match

import "seam/api"

// Bits has a bit for each place of the rules.
type Bits [(api.MaxPlaces + 63) / 64]uint64

func (b Bits) has(place int) bool { return b[place/64]>>(place%64)&1 == 1 }

func (b Bits) with(place int) Bits {
	b[place/64] |= 1 << (place % 64)
	return b
}

func (b Bits) or(other Bits) Bits {
	for i, word := range other {
		b[i] |= word
	}
	return b
}

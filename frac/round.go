package frac

import (
	"math/bits"

	"abaculus/api"
	"abaculus/nat"
	"abaculus/whole"
)

// Floor returns the greatest integer that does not exceed the number.
func (a Q) Floor() whole.Int {
	floor, _, _ := a.num.Div(positive(a.Den()))
	return floor
}

// Near rounds to the nearest multiple of 1 / 2^bits, and to the even one if two
// are equally near.
func (a Q) Near(bits int) Q {
	bits = min(max(bits, 0), api.MaxBits)
	n, rest, _ := a.num.Abs().Shift(bits).Div(a.Den())
	if isZero(rest) {
		return a
	}
	half := rest.Shift(1).Cmp(a.Den())
	if half > 0 || half == 0 && twos(n, 1) == 0 {
		n = n.Add(nat.Of(1))
	}
	// This is quicker than what cancel does.
	common := twos(n, bits)
	return ofLowest(whole.From(a.Sign() < 0, n.Shift(-common)), nat.Of(1).Shift(bits-common))
}

// twos returns how often 2 divides n, or most if that is less.
func twos(n nat.Nat, most int) int {
	b := n.Bytes()
	for i := range b {
		if last := b[len(b)-1-i]; last != 0 {
			return min(8*i+bits.TrailingZeros8(last), most)
		}
	}
	return most
}

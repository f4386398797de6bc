package frac

import (
	"slices"

	"abaculus/nat"
)

// Simple returns, of the numbers above lo that do not exceed hi, the one with
// the smallest denominator and then with the smallest absolute value, or false
// if lo is not less than hi.
func Simple(lo, hi Q) (Q, bool) {
	switch {
	case lo.Cmp(hi) >= 0:
		return Q{}, false
	case lo.Sign() >= 0:
		return simplest(boundOf(lo, false), boundOf(hi, true)), true
	case hi.Sign() < 0:
		return simplest(boundOf(hi, true), boundOf(lo, false)).Neg(), true
	}
	return Q{}, true
}

// bound is an end of an interval of numbers of at least 0: num / den, which is
// infinite for den = 0. It belongs to the interval itself if it is closed.
type bound struct {
	num, den nat.Nat
	closed   bool
}

// boundOf returns the absolute value of a as a bound.
func boundOf(a Q, closed bool) bound {
	return bound{num: a.num.Abs(), den: a.Den(), closed: closed}
}

// admits reports whether an upper bound leaves n in its interval.
func (b bound) admits(n nat.Nat) bool {
	order := n.Mul(b.den).Cmp(b.num)
	return order < 0 || order == 0 && b.closed
}

// simplest returns the number between lo and hi with the smallest denominator,
// and the least one if these are integers.
//
// If there is no integer between lo and hi, all numbers between have the same
// integer part. They exceed it by the inverses of the numbers of another
// interval, and the simplest number there leads to the simplest one here. So
// the parts of a continued fraction are found one by one.
func simplest(lo, hi bound) Q {
	var parts []nat.Nat
	for {
		floor, rest, _ := lo.num.Div(lo.den)
		least := floor
		if !lo.closed || !isZero(rest) {
			least = floor.Add(nat.Of(1))
		}
		if hi.admits(least) {
			return continued(append(parts, least))
		}
		parts = append(parts, floor)
		above, _ := hi.num.Sub(floor.Mul(hi.den))
		lo, hi = bound{hi.den, above, hi.closed}, bound{lo.den, rest, lo.closed}
	}
}

// continued returns the value of a continued fraction with these parts.
func continued(parts []nat.Nat) Q {
	num, den := nat.Of(1), nat.Of(0)
	for _, part := range slices.Backward(parts) {
		num, den = part.Mul(num).Add(den), num
	}
	return ofLowest(positive(num), den)
}

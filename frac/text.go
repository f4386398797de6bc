package frac

import (
	"strings"

	"abaculus/api"
	"abaculus/nat"
	"abaculus/whole"
)

// Text returns the numerator, and after a slash the denominator if it is not 1.
func (a Q) Text() string {
	if a.isWhole() {
		return a.num.Text()
	}
	return a.num.Text() + "/" + a.den.Text()
}

// Parse reads an integer, two numbers with a slash between them, or a decimal.
func Parse(s string) (Q, bool) {
	if num, den, found := strings.Cut(s, "/"); found {
		return parseRatio(num, den)
	}
	if before, after, found := strings.Cut(s, "."); found {
		return parseDecimal(before, after)
	}
	n, ok := whole.Parse(s)
	return Q{num: n}, ok
}

func parseRatio(num, den string) (Q, bool) {
	n, ok := whole.Parse(num)
	if !ok {
		return Q{}, false
	}
	d, ok := nat.Parse(den)
	if !ok {
		return Q{}, false
	}
	return Make(n, positive(d))
}

// parseDecimal reads what stands before the point, with the sign, and after it.
func parseDecimal(before, after string) (Q, bool) {
	before, neg := strings.CutPrefix(before, "-")
	n, ok := nat.Parse(before)
	if !ok {
		return Q{}, false
	}
	places, ok := parsePlaces(after)
	if !ok {
		return Q{}, false
	}
	scale, _ := nat.Of(10).Pow(len(after))
	return ofLowest(cancel(whole.From(neg, n.Mul(scale).Add(places)), scale)), true
}

// parsePlaces reads the digits after a point, which may begin with zeros.
func parsePlaces(digits string) (nat.Nat, bool) {
	if len(digits) == 0 || len(digits) > api.MaxDigits {
		return nat.Nat{}, false
	}
	digits = strings.TrimLeft(digits, "0")
	if digits == "" {
		return nat.Nat{}, true
	}
	return nat.Parse(digits)
}

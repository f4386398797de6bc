package whole

import (
	"math/bits"

	"abaculus/nat"
)

// Gcd returns the greatest common divisor, and 0 if both arguments are 0.
func Gcd(a, b Int) nat.Nat {
	x, y := a.abs, b.abs
	for !fitsWord(y) {
		_, rest, _ := x.Div(y)
		x, y = leapOn(y, rest)
	}
	_, rest, ok := x.Div(y)
	if !ok {
		return x
	}
	v, _ := y.Small()
	w, _ := rest.Small()
	return nat.Of(gcdOfWords(v, w))
}

func fitsWord(a nat.Nat) bool {
	_, short := a.Small()
	return short
}

// gcdOfWords returns the greatest common divisor of an x above 0 and of y, by
// differences of odd numbers, as division is slow.
func gcdOfWords(x, y uint64) uint64 {
	if y == 0 {
		return x
	}
	twos := bits.TrailingZeros64(x | y)
	x >>= bits.TrailingZeros64(x)
	for y != 0 {
		y >>= bits.TrailingZeros64(y)
		x, y = min(x, y), max(x, y)-min(x, y)
	}
	return x << twos
}

// row is a number of Euclid's algorithm, and a factor: the number is a multiple
// of b away from a times the factor.
type row [2]Int

// less returns the row without q times the other one.
func (r row) less(q Int, other row) row {
	for i := range r {
		r[i] = r[i].Sub(q.Mul(other[i]))
	}
	return r
}

// Bezout returns the greatest common divisor g and factors with
// a * x + b * y = g, of which x is the least that is not negative; for b = 0,
// x is the Sign of a, and y is 0.
func Bezout(a, b Int) (g, x, y Int) {
	sign := Of(int64(a.Sign()))
	if b.Sign() == 0 {
		return a.Mul(sign), sign, Int{}
	}
	rows := [2]row{{a.Mul(sign), sign}, {From(false, b.abs), Int{}}}
	for rows[1][0].Sign() != 0 {
		quotient, _, _ := rows[0][0].Div(rows[1][0])
		rows = [2]row{rows[1], rows[0].less(quotient, rows[1])}
	}
	g = rows[0][0]
	// The factors of a that lead to g differ by multiples of b / g.
	period, _, _ := From(false, b.abs).Div(g)
	_, x, _ = rows[0][1].Div(period)
	y, _, _ = g.Sub(a.Mul(x)).Div(b)
	return g, x, y
}

package nat

import (
	"cmp"
	"math/bits"
	"slices"
)

// The functions of this file work on numbers as lists of words, the least
// significant word first. A list may end with words that are 0.

const (
	wordBits  = 64
	wordBytes = wordBits / 8

	// From this many words on, three products of halves take less time than
	// the four that the plain way amounts to.
	splitFrom = 64
)

// trim returns w without the zeros at its end.
func trim(w []uint64) []uint64 {
	n := len(w)
	for n > 0 && w[n-1] == 0 {
		n--
	}
	return w[:n]
}

// compare compares two lists without zeros at their ends.
func compare(x, y []uint64) int {
	if len(x) != len(y) {
		return cmp.Compare(len(x), len(y))
	}
	for i := len(x) - 1; i >= 0; i-- {
		if x[i] != y[i] {
			return cmp.Compare(x[i], y[i])
		}
	}
	return 0
}

// sum returns x + y.
func sum(x, y []uint64) []uint64 {
	if len(x) < len(y) {
		x, y = y, x
	}
	z := make([]uint64, len(x)+1)
	copy(z, x)
	addTo(z, y)
	return z
}

// addTo adds x to z, which is at least as long; a carry out of z is dropped.
func addTo(z, x []uint64) {
	var carry uint64
	for i, w := range x {
		z[i], carry = bits.Add64(z[i], w, carry)
	}
	for i := len(x); carry != 0 && i < len(z); i++ {
		z[i], carry = bits.Add64(z[i], carry, 0)
	}
}

// subtractFrom subtracts x from z, which is at least as long and as great.
func subtractFrom(z, x []uint64) {
	var borrow uint64
	for i, w := range x {
		z[i], borrow = bits.Sub64(z[i], w, borrow)
	}
	for i := len(x); borrow != 0 && i < len(z); i++ {
		z[i], borrow = bits.Sub64(z[i], borrow, 0)
	}
}

// product returns x * y.
func product(x, y []uint64) []uint64 {
	if len(x) < len(y) {
		x, y = y, x
	}
	if len(y) < splitFrom {
		return plainProduct(x, y)
	}
	half := (len(x) + 1) / 2
	if len(y) <= half {
		z := make([]uint64, len(x)+len(y))
		copy(z, product(x[:half], y))
		addTo(z[half:], product(x[half:], y))
		return z
	}
	return splitProduct(x, y, half)
}

// plainProduct multiplies digit by digit.
func plainProduct(x, y []uint64) []uint64 {
	z := make([]uint64, len(x)+len(y))
	for i, w := range y {
		z[i+len(x)] = addTimes(z[i:i+len(x)], x, w)
	}
	return z
}

// splitProduct multiplies by Karatsuba's method: x and y have more than half
// words and at most twice as many, and the middle part of their product is
// found by one multiplication.
func splitProduct(x, y []uint64, half int) []uint64 {
	low := product(x[:half], y[:half])
	high := product(x[half:], y[half:])
	middle := product(sum(x[:half], x[half:]), sum(y[:half], y[half:]))
	subtractFrom(middle, low)
	subtractFrom(middle, high)
	z := make([]uint64, len(x)+len(y))
	copy(z, low)
	copy(z[2*half:], high)
	addTo(z[half:], trim(middle))
	return z
}

// addTimes adds x * k to z, which is as long as x, and returns the carry.
func addTimes(z, x []uint64, k uint64) uint64 {
	var carry uint64
	for i, w := range x {
		high, low := bits.Mul64(w, k)
		low, c := bits.Add64(low, z[i], 0)
		high += c
		z[i], c = bits.Add64(low, carry, 0)
		carry = high + c
	}
	return carry
}

// subtractTimes subtracts x * k from z, which is one word longer than x, and
// reports whether z was less; then z is greater by a power of 2^64 than the
// difference.
func subtractTimes(z, x []uint64, k uint64) bool {
	var carry uint64
	for i, w := range x {
		high, low := bits.Mul64(w, k)
		low, c := bits.Add64(low, carry, 0)
		high += c
		z[i], c = bits.Sub64(z[i], low, 0)
		carry = high + c
	}
	top, borrow := bits.Sub64(z[len(x)], carry, 0)
	z[len(x)] = top
	return borrow != 0
}

// divideByWord divides w by d, which is not 0, in place, and returns the
// remainder.
func divideByWord(w []uint64, d uint64) uint64 {
	var rest uint64
	for i := len(w) - 1; i >= 0; i-- {
		w[i], rest = bits.Div64(rest, w[i], d)
	}
	return rest
}

// divide returns the quotient and the remainder of x by y by long division
// (Knuth's algorithm D). Neither list ends with 0, y has at least two words,
// and x at least as many.
func divide(x, y []uint64) (quotient, rest []uint64) {
	// With the highest bit of the divisor set, a guess is at most one too great.
	n := len(y)
	shift := bits.LeadingZeros64(y[n-1])
	divisor := shiftUp(y, shift)[:n]
	rest = shiftUp(x, shift)
	quotient = make([]uint64, len(rest)-n)
	for i := len(quotient) - 1; i >= 0; i-- {
		part := rest[i : i+n+1]
		digit := guess(part, divisor)
		if subtractTimes(part, divisor, digit) {
			addTo(part, divisor)
			digit--
		}
		quotient[i] = digit
	}
	return quotient, shiftDown(rest[:n], shift)
}

// guess returns part / divisor, or one more, from the first words of both.
// part is one word longer than divisor and less than 2^64 times as great.
func guess(part, divisor []uint64) uint64 {
	n := len(divisor)
	first, second := divisor[n-1], divisor[n-2]
	if part[n] >= first {
		return 1<<wordBits - 1
	}
	digit, rest := bits.Div64(part[n], part[n-1], first)
	for {
		high, low := bits.Mul64(digit, second)
		if high < rest || high == rest && low <= part[n-2] {
			return digit
		}
		digit--
		rest += first
		if rest < first { // past one word: the digit fits
			return digit
		}
	}
}

// shiftUp returns w * 2^n.
func shiftUp(w []uint64, n int) []uint64 {
	skip, part := n/wordBits, n%wordBits
	z := make([]uint64, len(w)+skip+1)
	for i, x := range w {
		z[skip+i] |= x << part
		z[skip+i+1] = x >> (wordBits - part)
	}
	return z
}

// shiftDown returns w / 2^n, rounded down.
func shiftDown(w []uint64, n int) []uint64 {
	skip, part := n/wordBits, n%wordBits
	if skip >= len(w) {
		return nil
	}
	z := slices.Clone(w[skip:])
	for i := range z {
		z[i] >>= part
		if i+1 < len(z) {
			z[i] |= z[i+1] << (wordBits - part)
		}
	}
	return z
}

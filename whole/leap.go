package whole

import (
	"math/bits"

	"abaculus/nat"
)

// The functions of this file take Euclid's algorithm many steps further at
// once, by Lehmer's method: the leading words of two long numbers determine
// several quotients, so that one pass over all words does what a division for
// each quotient would do. Numbers are lists of words here, the least
// significant word first.

const (
	wordBits  = 64
	wordBytes = wordBits / 8
)

// leap is the way from x and y to two later numbers of the algorithm, which are
// factors[0][0] * x - factors[0][1] * y and factors[1][1] * y - factors[1][0] * x,
// or, if it is odd, the negatives of these. Neither is negative.
type leap struct {
	factors [2][2]uint64
	odd     bool
}

// leapOn takes leaps from x and y, the greater number first, for as long as
// leading words determine any.
func leapOn(x, y nat.Nat) (nat.Nat, nat.Nat) {
	v := wordsOf(x, (x.Bits()+wordBits-1)/wordBits)
	w := wordsOf(y, len(v))
	nextV, nextW := make([]uint64, len(v)), make([]uint64, len(v))
	for len(v) > 1 {
		l, ok := leapFrom(leadingWords(v, w))
		if !ok {
			break
		}
		l.take(nextV, nextW, v, w)
		n := len(v)
		for n > 1 && nextV[n-1] == 0 {
			n--
		}
		v, w, nextV, nextW = nextV[:n], nextW[:n], v[:n], w[:n]
	}
	return natOf(v), natOf(w)
}

// wordsOf returns the n words of a number that has no more.
func wordsOf(a nat.Nat, n int) []uint64 {
	b := a.Bytes()
	w := make([]uint64, n)
	for i := range b {
		w[i/wordBytes] |= uint64(b[len(b)-1-i]) << (i % wordBytes * 8)
	}
	return w
}

func natOf(w []uint64) nat.Nat {
	b := make([]byte, wordBytes*len(w))
	for i := range b {
		b[len(b)-1-i] = byte(w[i/wordBytes] >> (i % wordBytes * 8))
	}
	return nat.FromBytes(b)
}

// leadingWords returns the first 64 bits of v from its highest bit on, and the
// bits of w, which is not greater, at the same places.
func leadingWords(v, w []uint64) (uint64, uint64) {
	n := len(v)
	shift := bits.LeadingZeros64(v[n-1])
	first := func(list []uint64) uint64 {
		return list[n-1]<<shift | list[n-2]>>(wordBits-shift)
	}
	return first(v), first(w)
}

// leapFrom returns the leap that the leading words a and b of two numbers, the
// greater number first, determine, or false if they determine no step.
func leapFrom(a, b uint64) (leap, bool) {
	// The u are factors of the one number and the v of the other one, without
	// signs, for three successive numbers of the algorithm. As long as Collins'
	// condition holds, the bits that were cut off change no quotient, and the
	// first two of the three are right for the whole numbers.
	var u0, u1, u2, v0, v1, v2 uint64 = 0, 1, 0, 0, 0, 1
	odd := true
	for b >= v2 && a-b >= v1+v2 {
		quotient := a / b
		a, b = b, a%b
		u0, u1, u2 = u1, u2, u1+quotient*u2
		v0, v1, v2 = v1, v2, v1+quotient*v2
		odd = !odd
	}
	return leap{factors: [2][2]uint64{{u0, v0}, {u1, v1}}, odd: odd}, v0 != 0
}

// take writes what the leap makes of x and y to nextX and nextY.
func (l leap) take(nextX, nextY, x, y []uint64) {
	first, second := l.factors[0], l.factors[1]
	if l.odd {
		difference(nextX, y, x, first[1], first[0])
		difference(nextY, x, y, second[0], second[1])
		return
	}
	difference(nextX, x, y, first[0], first[1])
	difference(nextY, y, x, second[1], second[0])
}

// difference writes p * x - q * y to z; it is not negative, and fits.
func difference(z, x, y []uint64, p, q uint64) {
	var carryX, carryY, borrow uint64
	for i := range z {
		high, fromX := bits.Mul64(x[i], p)
		fromX, carry := bits.Add64(fromX, carryX, 0)
		carryX = high + carry
		high, fromY := bits.Mul64(y[i], q)
		fromY, carry = bits.Add64(fromY, carryY, 0)
		carryY = high + carry
		z[i], borrow = bits.Sub64(fromX, fromY, borrow)
	}
}

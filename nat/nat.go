// Package nat is natural numbers of arbitrary size: see chapter 1.
package nat

import (
	"cmp"
	"math/bits"
	"slices"
	"strconv"
	"strings"

	"abaculus/api"
)

const (
	mostShift = 1 << 16
	mostPower = 1 << 16

	// Texts are read and written by chunks: tenPower is the greatest power of
	// ten that fits into a word, and chunkDigits its exponent.
	chunkDigits = 19
	tenPower    = 10_000_000_000_000_000_000
)

// Nat is a natural number, 0 or more; it never changes after it is made.
//
// Most numbers of a program are short. One below 2^64 stands in small alone,
// so that it needs no memory of its own; any other one stands in words, with 0
// in small. Each number has exactly one form.
type Nat struct {
	small uint64
	words []uint64
}

// Of returns n as a Nat.
func Of(n uint64) Nat {
	return Nat{small: n}
}

// ofTwo returns the number high * 2^64 + low.
func ofTwo(high, low uint64) Nat {
	if high == 0 {
		return Of(low)
	}
	return Nat{words: []uint64{low, high}}
}

// ofWords returns the number that stands in w, and keeps w.
func ofWords(w []uint64) Nat {
	w = trim(w)
	switch len(w) {
	case 0:
		return Nat{}
	case 1:
		return Of(w[0])
	}
	return Nat{words: w}
}

func (a Nat) short() bool {
	return len(a.words) == 0
}

// list returns the words of any number, for reading only.
func (a Nat) list() []uint64 {
	if a.short() {
		return []uint64{a.small}
	}
	return a.words
}

// Parse reads decimal digits; it is the inverse of Text.
func Parse(s string) (Nat, bool) {
	if !isDecimal(s) {
		return Nat{}, false
	}
	var a Nat
	for len(s) > 0 {
		n := min(len(s), chunkDigits)
		chunk, scale := uint64(0), uint64(1)
		for i := range n {
			chunk = 10*chunk + uint64(s[i]-'0')
			scale *= 10
		}
		a = a.Mul(Of(scale)).Add(Of(chunk))
		s = s[n:]
	}
	return a, true
}

// isDecimal reports whether s is the Text of a number of at most MaxDigits digits.
func isDecimal(s string) bool {
	if len(s) == 0 || len(s) > api.MaxDigits || s[0] == '0' && len(s) > 1 {
		return false
	}
	for i := range len(s) {
		if s[i] < '0' || s[i] > '9' {
			return false
		}
	}
	return true
}

// FromBytes reads a number in big-endian order.
func FromBytes(b []byte) Nat {
	w := make([]uint64, (len(b)+wordBytes-1)/wordBytes)
	for i := range len(b) {
		w[i/wordBytes] |= uint64(b[len(b)-1-i]) << (i % wordBytes * 8)
	}
	return ofWords(w)
}

// Text returns the decimal digits without leading zeros.
func (a Nat) Text() string {
	if a.short() {
		return strconv.FormatUint(a.small, 10)
	}
	var chunks []uint64
	rest := slices.Clone(a.words)
	for len(rest) > 0 {
		chunks = append(chunks, divideByWord(rest, tenPower))
		rest = trim(rest)
	}
	var text strings.Builder
	text.WriteString(strconv.FormatUint(chunks[len(chunks)-1], 10))
	for i := len(chunks) - 2; i >= 0; i-- {
		digits := strconv.FormatUint(chunks[i], 10)
		text.WriteString(strings.Repeat("0", chunkDigits-len(digits)))
		text.WriteString(digits)
	}
	return text.String()
}

// Bytes returns the number in big-endian order, in as few bytes as possible.
func (a Nat) Bytes() []byte {
	w := a.list()
	b := make([]byte, (a.Bits()+7)/8)
	for i := range b {
		b[len(b)-1-i] = byte(w[i/wordBytes] >> (i % wordBytes * 8))
	}
	return b
}

// Small returns the number and true if it is less than 2^64.
func (a Nat) Small() (uint64, bool) {
	return a.small, a.short()
}

// Bits returns the number of bits without leading zeros.
func (a Nat) Bits() int {
	w := a.list()
	top := len(w) - 1
	return top*wordBits + bits.Len64(w[top])
}

// Cmp returns -1, 0 or 1 if the number is less than, equal to or greater than b.
func (a Nat) Cmp(b Nat) int {
	if a.short() && b.short() {
		return cmp.Compare(a.small, b.small)
	}
	return compare(a.words, b.words)
}

// Add returns the sum.
func (a Nat) Add(b Nat) Nat {
	if a.short() && b.short() {
		low, carry := bits.Add64(a.small, b.small, 0)
		return ofTwo(carry, low)
	}
	return ofWords(sum(a.list(), b.list()))
}

// Sub returns the difference, or false if b is greater.
func (a Nat) Sub(b Nat) (Nat, bool) {
	if a.Cmp(b) < 0 {
		return Nat{}, false
	}
	if a.short() {
		return Of(a.small - b.small), true
	}
	rest := slices.Clone(a.words)
	subtractFrom(rest, b.list())
	return ofWords(rest), true
}

// Mul returns the product.
func (a Nat) Mul(b Nat) Nat {
	if a.short() && b.short() {
		return ofTwo(bits.Mul64(a.small, b.small))
	}
	return ofWords(product(a.list(), b.list()))
}

// Div returns the quotient, rounded down, and the remainder, or false if b is 0.
func (a Nat) Div(b Nat) (q, r Nat, ok bool) {
	switch {
	case b.short() && b.small == 0:
		return Nat{}, Nat{}, false
	case a.short() && b.short():
		return Of(a.small / b.small), Of(a.small % b.small), true
	case a.Cmp(b) < 0:
		return Nat{}, a, true
	case b.short():
		quotient := slices.Clone(a.words)
		rest := divideByWord(quotient, b.small)
		return ofWords(quotient), Of(rest), true
	}
	quotient, rest := divide(a.words, b.words)
	return ofWords(quotient), ofWords(rest), true
}

// Shift multiplies by 2^n, or divides by 2^-n and rounds down if n is below 0.
func (a Nat) Shift(n int) Nat {
	if n < 0 {
		return a.down(-max(n, -mostShift))
	}
	return a.up(min(n, mostShift))
}

// up multiplies by 2^n for an n of at least 0, also one above Shift's limit.
func (a Nat) up(n int) Nat {
	if a.short() && bits.Len64(a.small)+n <= wordBits {
		return Of(a.small << n)
	}
	return ofWords(shiftUp(a.list(), n))
}

// down divides by 2^n for an n of at least 0.
func (a Nat) down(n int) Nat {
	if a.short() {
		return Of(a.small >> n)
	}
	return ofWords(shiftDown(a.words, n))
}

// Pow returns the n-th power, or false if n is below 0 or above 2^16.
func (a Nat) Pow(n int) (Nat, bool) {
	if n < 0 || n > mostPower {
		return Nat{}, false
	}
	power := Of(1)
	for i := bits.Len(uint(n)) - 1; i >= 0; i-- {
		power = power.Mul(power)
		if n>>i&1 == 1 {
			power = power.Mul(a)
		}
	}
	return power, true
}

// Root returns the greatest number whose square does not exceed the number.
func (a Nat) Root() Nat {
	if a.Bits() == 0 {
		return Nat{}
	}
	// Newton's steps from above the root fall until they have reached it.
	root := Of(1).up((a.Bits() + 1) / 2)
	for {
		quotient, _, _ := a.Div(root)
		next := root.Add(quotient).down(1)
		if next.Cmp(root) >= 0 {
			return root
		}
		root = next
	}
}

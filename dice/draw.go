package dice

import (
	"math"
	"slices"

	"abaculus/frac"
	"abaculus/nat"
	"abaculus/whole"
)

const (
	wordBits = 64
	mostLong = 1 << 16 // elements of an Order or a Draw
)

// Below returns a number from 0 to n - 1; it returns 0 and draws nothing if n
// is below 1.
func (d *Dice) Below(n int) int {
	if n < 1 {
		return 0
	}
	span := uint64(n)
	// The results from the greatest multiple of n on are passed over: with
	// them, the small remainders would be more frequent than the others.
	passed := -span % span // 2^64 modulo n, as -span is 2^64 - n here
	u := d.Next()
	for u > math.MaxUint64-passed {
		u = d.Next()
	}
	return int(u % span)
}

// Order returns a permutation of 0 to n - 1; it is empty, and nothing is drawn,
// if n is below 1 or above 2^16.
func (d *Dice) Order(n int) []int {
	if n < 1 || n > mostLong {
		return nil
	}
	return shuffled(n, d.Below)
}

// shuffled returns the numbers 0 to n - 1, each of which is swapped, from the
// last one to the first, with one that below chooses of those up to it.
func shuffled(n int, below func(n int) int) []int {
	order := make([]int, n)
	for i := range order {
		order[i] = i
	}
	for i := n - 1; i >= 1; i-- {
		k := below(i + 1)
		order[i], order[k] = order[k], order[i]
	}
	return order
}

// Draw returns k results of Below(n); it is empty, and nothing is drawn, if n
// or k is below 1, or k is above 2^16.
func (d *Dice) Draw(n, k int) []int {
	if n < 1 || k < 1 || k > mostLong {
		return nil
	}
	drawn := make([]int, k)
	for i := range drawn {
		drawn[i] = d.Below(n)
	}
	return drawn
}

// Pick returns an index of w, each with a probability in proportion to its
// weight; it returns false and draws nothing if a weight is negative or all
// are 0.
func (d *Dice) Pick(w []frac.Q) (int, bool) {
	sum := frac.Sum(w)
	if sum.Sign() <= 0 || slices.ContainsFunc(w, isNegative) {
		return 0, false
	}
	return indexAt(w, sum.Mul(unit(d.Next()))), true
}

// indexAt returns the first index at which the sum of w up to and including it
// is greater than point, which is at least 0 and less than the sum of w. As no
// weight is negative, it can look at one half of those that are left.
func indexAt(w []frac.Q, point frac.Q) int {
	low, high := 0, len(w)
	var before frac.Q // the sum of w[:low], which is at most point
	for high-low > 1 {
		middle := low + (high-low)/2
		upTo := before.Add(frac.Sum(w[low:middle]))
		if upTo.Cmp(point) > 0 {
			high = middle
		} else {
			low, before = middle, upTo
		}
	}
	return low
}

func isNegative(a frac.Q) bool {
	return a.Sign() < 0
}

// unit returns u / 2^64.
func unit(u uint64) frac.Q {
	all := nat.Of(1).Shift(wordBits)
	part, _ := frac.Make(whole.From(false, nat.Of(u)), whole.From(false, all))
	return part
}

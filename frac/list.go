package frac

import "slices"

// Min returns the lesser number.
func Min(a, b Q) Q {
	if a.Cmp(b) <= 0 {
		return a
	}
	return b
}

// Max returns the greater number.
func Max(a, b Q) Q {
	if a.Cmp(b) >= 0 {
		return a
	}
	return b
}

// Sum returns the sum, which is 0 for an empty list.
func Sum(l []Q) Q {
	return total(0, len(l), func(i int) Q { return l[i] })
}

// total returns the sum of the terms whose numbers are at least from and less
// than to. It adds sums of halves: the denominators of one long sum would be
// long for most of the additions.
func total(from, to int, term func(i int) Q) Q {
	switch to - from {
	case 0:
		return Q{}
	case 1:
		return term(from)
	}
	middle := from + (to-from)/2
	return total(from, middle, term).Add(total(middle, to, term))
}

// Mean returns the arithmetic mean, or false for an empty list.
func Mean(l []Q) (Q, bool) {
	return Sum(l).Div(Of(int64(len(l))))
}

// Dot returns the sum of the products of corresponding elements, or false if
// the lengths differ.
func Dot(a, b []Q) (Q, bool) {
	if len(a) != len(b) {
		return Q{}, false
	}
	return total(0, len(a), func(i int) Q { return a[i].Mul(b[i]) }), true
}

// Same reports whether both lists have the same length and equal elements.
func Same(a, b []Q) bool {
	return slices.EqualFunc(a, b, Q.equal)
}

// Less reports whether a comes first: the first differing element decides, and
// a proper prefix is less.
func Less(a, b []Q) bool {
	return slices.CompareFunc(a, b, Q.Cmp) < 0
}

// Sort returns the elements in nondecreasing order.
func Sort(l []Q) []Q {
	sorted := slices.Clone(l)
	slices.SortFunc(sorted, Q.Cmp)
	return sorted
}

// Median returns the middle element of the sorted list, or the mean of the two
// middle elements; it returns false for an empty list.
func Median(l []Q) (Q, bool) {
	if len(l) == 0 {
		return Q{}, false
	}
	return Mean(Sort(l)[(len(l)-1)/2 : len(l)/2+1])
}

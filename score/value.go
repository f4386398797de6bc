package score

import (
	"slices"

	"abaculus/api"
	"abaculus/frac"
)

// Squares returns the mean squared difference.
func Squares(want, got []frac.Q) (frac.Q, api.Errno) {
	return mean(want, got, func(w, g frac.Q) frac.Q {
		d := w.Sub(g)
		return d.Mul(d)
	})
}

// Sizes returns the mean absolute difference.
func Sizes(want, got []frac.Q) (frac.Q, api.Errno) {
	return mean(want, got, func(w, g frac.Q) frac.Q { return w.Sub(g).Abs() })
}

// Told returns the coefficient of determination.
func Told(want, got []frac.Q) (frac.Q, api.Errno) {
	squares, e := Squares(want, got)
	if e != api.OK {
		return frac.Q{}, e
	}
	untold, ok := squares.Div(variance(want))
	if !ok {
		return frac.Q{}, api.ErrZero
	}
	return frac.Of(1).Sub(untold), api.OK
}

// variance returns the mean squared deviation of the numbers, of which there
// is at least one, from their mean. It subtracts from the mean square, as the
// mean may be a long fraction, and so would all the deviations from it.
func variance(l []frac.Q) frac.Q {
	middle, _ := frac.Mean(l)
	squares, _ := frac.Dot(l, l)
	meanSquare, _ := squares.Div(frac.Of(int64(len(l))))
	return meanSquare.Sub(middle.Mul(middle))
}

// Tilt returns the pinball loss: a difference of 0 or more counts at times,
// and one below 0 counts at - 1 times.
func Tilt(want, got []frac.Q, at frac.Q) (frac.Q, api.Errno) {
	if !match(want, got) {
		return frac.Q{}, api.ErrShape
	}
	below := at.Sub(frac.Of(1))
	if at.Sign() < 0 || below.Sign() > 0 {
		return frac.Q{}, api.ErrArg
	}
	return mean(want, got, func(w, g frac.Q) frac.Q {
		d := w.Sub(g)
		if d.Sign() < 0 {
			return below.Mul(d)
		}
		return at.Mul(d)
	})
}

// Brier returns the mean over all rows of p of the sum of the squared
// differences from the row that is 1 at the index in want and 0 elsewhere.
func Brier(want []int, p [][]frac.Q) (frac.Q, api.Errno) {
	if !match(want, p) || !haveLength(p, len(p[0])) {
		return frac.Q{}, api.ErrShape
	}
	if !areBelow(want, len(p[0])) {
		return frac.Q{}, api.ErrArg
	}
	return mean(want, p, func(class int, row []frac.Q) frac.Q {
		misses := slices.Clone(row)
		misses[class] = misses[class].Sub(frac.Of(1))
		sum, _ := frac.Dot(misses, misses)
		return sum
	})
}

// mean returns the mean of loss over the elements at the same positions of
// both lists.
func mean[A, B any](want []A, got []B, loss func(A, B) frac.Q) (frac.Q, api.Errno) {
	if !match(want, got) {
		return frac.Q{}, api.ErrShape
	}
	losses := make([]frac.Q, len(want))
	for i, w := range want {
		losses[i] = loss(w, got[i])
	}
	m, _ := frac.Mean(losses)
	return m, api.OK
}

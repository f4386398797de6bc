package prep

import (
	"slices"

	"abaculus/api"
	"abaculus/frac"
	"abaculus/sheet"
)

// Fit returns the Plan by which the given columns of t become numbers, with
// the encoding how for the Number columns.
func Fit(t sheet.Sheet, cols []int, how int) (Plan, api.Errno) {
	if e := sheet.Check(t); e != api.OK {
		return Plan{}, e
	}
	if !isEncoding(how) || !areColumns(t, cols) {
		return Plan{}, api.ErrArg
	}
	if len(cols) == 0 || len(t.Rows) == 0 {
		return Plan{}, api.ErrShape
	}
	p := Plan{Cols: copyColumns(t.Cols), Uses: make([]Use, len(cols))}
	for i, col := range cols {
		p.Uses[i] = Use{Col: col, Width: widthOf(t.Cols[col])}
	}
	if Width(p) > api.MaxCols {
		return Plan{}, api.ErrLong
	}
	for i := range p.Uses {
		if !p.Uses[i].learn(t, how) {
			return Plan{}, api.ErrLacks
		}
	}
	return p, api.OK
}

func isEncoding(how int) bool {
	switch how {
	case Plain, Range, Spread:
		return true
	}
	return false
}

// areColumns reports whether cols are indices of columns of t, in ascending
// order.
func areColumns(t sheet.Sheet, cols []int) bool {
	least := 0
	for _, col := range cols {
		if col < least || col >= len(t.Cols) {
			return false
		}
		least = col + 1
	}
	return true
}

func copyColumns(cols []sheet.Col) []sheet.Col {
	list := slices.Clone(cols)
	for i := range list {
		list[i].Words = slices.Clone(list[i].Words)
	}
	return list
}

// learn takes the statistics of the column of u from t. It reports whether a
// value of the column is present.
func (u *Use) learn(t sheet.Sheet, how int) bool {
	present := presentCells(t, u.Col)
	if len(present) == 0 {
		return false
	}
	if c := t.Cols[u.Col]; c.Kind == sheet.Choice {
		u.Word = mostFrequent(present, len(c.Words))
		return true
	}
	values := make([]frac.Q, len(present), len(t.Rows))
	for i, x := range present {
		values[i] = x.Q
	}
	u.Fill, _ = frac.Mean(values)
	for len(values) < len(t.Rows) {
		values = append(values, u.Fill)
	}
	u.Shift, u.By = scale(values, how)
	return true
}

func presentCells(t sheet.Sheet, col int) []sheet.Cell {
	var list []sheet.Cell
	for _, row := range t.Rows {
		if x := row[col]; !x.Lacks {
			list = append(list, x)
		}
	}
	return list
}

// mostFrequent returns the first of the most frequent words of the cells.
func mostFrequent(cells []sheet.Cell, words int) int {
	counts := make([]int, words)
	for _, x := range cells {
		counts[x.Word]++
	}
	return slices.Index(counts, slices.Max(counts))
}

// scale returns the Shift and the By of a column with the given values, of
// which there is at least one.
func scale(values []frac.Q, how int) (shift, by frac.Q) {
	switch how {
	case Range:
		least := slices.MinFunc(values, frac.Q.Cmp)
		shift, by = least, slices.MaxFunc(values, frac.Q.Cmp).Sub(least)
	case Spread:
		shift, _ = frac.Mean(values)
		by = meanDistance(values, shift)
	}
	// the plain numbers are divided by 1, and so are numbers that are all equal
	if by.Sign() == 0 {
		by = frac.Of(1)
	}
	return shift, by
}

// meanDistance returns the mean of the distances of the values from their
// mean. The values above it are as far from it, in sum, as those below it, so
// one half of the distances is enough.
func meanDistance(values []frac.Q, mean frac.Q) frac.Q {
	var above []frac.Q
	for _, q := range values {
		if q.Cmp(mean) > 0 {
			above = append(above, q)
		}
	}
	half := frac.Sum(above).Sub(mean.Mul(count(above)))
	distance, _ := half.Mul(frac.Of(2)).Div(count(values))
	return distance
}

func count(values []frac.Q) frac.Q {
	return frac.Of(int64(len(values)))
}

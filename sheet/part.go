package sheet

import (
	"slices"

	"abaculus/api"
	"abaculus/frac"
)

// Take returns the sheet with the given rows, in this order.
func Take(t Sheet, rows []int) (Sheet, api.Errno) {
	if e := Check(t); e != api.OK {
		return Sheet{}, e
	}
	for _, row := range rows {
		if !isIndex(t.Rows, row) {
			return Sheet{}, api.ErrArg
		}
	}
	if len(rows) > api.MaxRows {
		return Sheet{}, api.ErrLong
	}
	return Sheet{
		Cols: each(t.Cols, copyColumn),
		Rows: each(rows, func(row int) []Cell { return slices.Clone(t.Rows[row]) }),
	}, api.OK
}

// Without returns the sheet without a column, which must not be the only one.
func Without(t Sheet, col int) (Sheet, api.Errno) {
	if e := Check(t); e != api.OK {
		return Sheet{}, e
	}
	if !isIndex(t.Cols, col) || len(t.Cols) == 1 {
		return Sheet{}, api.ErrArg
	}
	return Sheet{
		Cols: each(without(t.Cols, col), copyColumn),
		Rows: each(t.Rows, func(row []Cell) []Cell { return without(row, col) }),
	}, api.OK
}

// Add returns the sheet with the rows of t followed by those of u, which must
// have the same columns.
func Add(t, u Sheet) (Sheet, api.Errno) {
	if e := Check(t); e != api.OK {
		return Sheet{}, e
	}
	if e := Check(u); e != api.OK {
		return Sheet{}, e
	}
	if !sameColumns(t, u) {
		return Sheet{}, api.ErrKind
	}
	if len(t.Rows)+len(u.Rows) > api.MaxRows {
		return Sheet{}, api.ErrLong
	}
	return Sheet{
		Cols: each(t.Cols, copyColumn),
		Rows: each(slices.Concat(t.Rows, u.Rows), slices.Clone),
	}, api.OK
}

// Numbers returns the numbers of a Number column, none of which may be missing.
func Numbers(t Sheet, col int) ([]frac.Q, api.Errno) {
	return values(t, col, Number, func(x Cell) frac.Q { return x.Q })
}

// Choices returns the word indices of a Choice column, none of which may be
// missing.
func Choices(t Sheet, col int) ([]int, api.Errno) {
	return values(t, col, Choice, func(x Cell) int { return x.Word })
}

// values returns the value of each cell of a column of that kind.
func values[T any](t Sheet, col, kind int, value func(x Cell) T) ([]T, api.Errno) {
	if e := Check(t); e != api.OK {
		return nil, e
	}
	if !isIndex(t.Cols, col) {
		return nil, api.ErrArg
	}
	if t.Cols[col].Kind != kind {
		return nil, api.ErrKind
	}
	cells := each(t.Rows, func(row []Cell) Cell { return row[col] })
	if slices.ContainsFunc(cells, isMissing) {
		return nil, api.ErrLacks
	}
	return each(cells, value), api.OK
}

func isMissing(x Cell) bool {
	return x.Lacks
}

func isIndex[T any](l []T, i int) bool {
	return 0 <= i && i < len(l)
}

// each returns what makeOne makes of each element of l.
func each[T, U any](l []T, makeOne func(x T) U) []U {
	list := make([]U, len(l))
	for i, x := range l {
		list[i] = makeOne(x)
	}
	return list
}

// without returns the elements of l but the one at i, in new memory.
func without[T any](l []T, i int) []T {
	return slices.Concat(l[:i], l[i+1:])
}

func copyColumn(c Col) Col {
	c.Words = slices.Clone(c.Words)
	return c
}

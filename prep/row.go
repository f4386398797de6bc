package prep

import (
	"abaculus/api"
	"abaculus/frac"
	"abaculus/sheet"
)

// Row returns the numbers that a row with these cells becomes.
func Row(p Plan, cells []sheet.Cell) ([]frac.Q, api.Errno) {
	if e := Check(p); e != api.OK {
		return nil, e
	}
	if len(cells) != len(p.Cols) {
		return nil, api.ErrShape
	}
	for i, x := range cells {
		if !sheet.Right(p.Cols[i], x) {
			return nil, api.ErrArg
		}
	}
	return row(p, cells), api.OK
}

// Apply returns the numbers that each row of t becomes.
func Apply(p Plan, t sheet.Sheet) ([][]frac.Q, api.Errno) {
	if e := Check(p); e != api.OK {
		return nil, e
	}
	if e := sheet.Check(t); e != api.OK {
		return nil, e
	}
	if !sameColumns(p.Cols, t.Cols) {
		return nil, api.ErrKind
	}
	list := make([][]frac.Q, len(t.Rows))
	for i, cells := range t.Rows {
		list[i] = row(p, cells)
	}
	return list, api.OK
}

// row returns the numbers of valid cells by a valid plan.
func row(p Plan, cells []sheet.Cell) []frac.Q {
	list := make([]frac.Q, Width(p))
	rest := list
	for _, u := range p.Uses {
		u.encode(rest[:u.Width], cells[u.Col], p.Cols[u.Col].Kind)
		rest = rest[u.Width:]
	}
	return list
}

// encode writes the numbers of cell x of a column of that kind to list, which
// holds zeros.
func (u Use) encode(list []frac.Q, x sheet.Cell, kind int) {
	if x.Lacks {
		x.Q, x.Word = u.Fill, u.Word
	}
	switch kind {
	case sheet.Number:
		list[0], _ = x.Q.Sub(u.Shift).Div(u.By)
	case sheet.Choice:
		list[x.Word] = frac.Of(1)
	}
}

// Back returns the cells of a row that became the numbers x. The cells of the
// columns without a Use are missing.
func Back(p Plan, x []frac.Q) ([]sheet.Cell, api.Errno) {
	if e := Check(p); e != api.OK {
		return nil, e
	}
	if len(x) != Width(p) {
		return nil, api.ErrShape
	}
	cells := make([]sheet.Cell, len(p.Cols))
	for i := range cells {
		cells[i].Lacks = true
	}
	for _, u := range p.Uses {
		cells[u.Col] = u.decode(x[:u.Width], p.Cols[u.Col].Kind)
		x = x[u.Width:]
	}
	return cells, api.OK
}

// decode returns the cell of a column of that kind that became the numbers x.
func (u Use) decode(x []frac.Q, kind int) sheet.Cell {
	if kind == sheet.Number {
		return sheet.Cell{Q: x[0].Mul(u.By).Add(u.Shift)}
	}
	word := 0
	for i, q := range x {
		if q.Cmp(x[word]) > 0 {
			word = i
		}
	}
	return sheet.Cell{Word: word}
}

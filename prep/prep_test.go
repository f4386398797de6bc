package prep

import (
	"math/rand"
	"slices"
	"strconv"
	"strings"
	"testing"

	"abaculus/api"
	"abaculus/frac"
	"abaculus/sheet"
)

const small = "x:number,k:choice(a|b|c),z:number,l:choice(p|q)\n2,b,1,q\n4,?,1,p\n?,b,5/3,?\n6,a,?,q\n"

// wide has columns of 12, 8, 1 and 1 numbers.
const wide = "v:choice(a|b|c|d|e|f|g|h|i|j|k|l),w:choice(a|b|c|d|e|f|g|h),x:number,y:choice(a)\na,b,3,a\nl,h,?,?\n"

func parsed(t *testing.T, text string) sheet.Sheet {
	t.Helper()
	s, f := sheet.Parse(text)
	if f != (api.Fault{}) {
		t.Fatal(text, f)
	}
	return s
}

func fitted(t *testing.T, s sheet.Sheet, cols []int, how int) Plan {
	t.Helper()
	p, e := Fit(s, cols, how)
	if e != api.OK || Check(p) != api.OK {
		t.Fatal(cols, how, e, Check(p))
	}
	return p
}

func number(t *testing.T, text string) frac.Q {
	t.Helper()
	q, ok := frac.Parse(text)
	if !ok {
		t.Fatal(text)
	}
	return q
}

func numbers(t *testing.T, text string) []frac.Q {
	t.Helper()
	var list []frac.Q
	for _, word := range strings.Fields(text) {
		list = append(list, number(t, word))
	}
	return list
}

func show(l []frac.Q) string {
	var words []string
	for _, q := range l {
		words = append(words, q.Text())
	}
	return strings.Join(words, " ")
}

func showUse(u Use) string {
	return strconv.Itoa(u.Col) + " " + strconv.Itoa(u.Width) + " " + strconv.Itoa(u.Word) + ": " + show([]frac.Q{u.Fill, u.Shift, u.By})
}

func copied(p Plan) Plan {
	return Plan{Cols: copiedCols(p.Cols), Uses: slices.Clone(p.Uses)}
}

func copiedCols(cols []sheet.Col) []sheet.Col {
	cols = slices.Clone(cols)
	for i := range cols {
		cols[i].Words = slices.Clone(cols[i].Words)
	}
	return cols
}

func copiedSheet(s sheet.Sheet) sheet.Sheet {
	rows := slices.Clone(s.Rows)
	for i := range rows {
		rows[i] = slices.Clone(rows[i])
	}
	return sheet.Sheet{Cols: copiedCols(s.Cols), Rows: rows}
}

// spoilCols overwrites all memory of cols.
func spoilCols(cols []sheet.Col) {
	for i := range cols {
		words := cols[i].Words[:cap(cols[i].Words)]
		for k := range words {
			words[k] = "spoiled"
		}
	}
	cols = cols[:cap(cols)]
	for i := range cols {
		cols[i] = sheet.Col{Name: "spoiled"}
	}
}

func isZero(p Plan) bool {
	return p.Cols == nil && p.Uses == nil
}

func randomSheet(gen *rand.Rand) sheet.Sheet {
	var s sheet.Sheet
	for i := range 1 + gen.Intn(6) {
		c := sheet.Col{Name: "c" + strconv.Itoa(i), Kind: sheet.Number}
		if gen.Intn(2) == 0 {
			c.Kind = sheet.Choice
			for k := range 1 + gen.Intn(4) {
				c.Words = append(c.Words, "w"+strconv.Itoa(k))
			}
		}
		s.Cols = append(s.Cols, c)
	}
	for range 1 + gen.Intn(12) {
		var row []sheet.Cell
		for _, c := range s.Cols {
			row = append(row, randomCell(gen, c))
		}
		s.Rows = append(s.Rows, row)
	}
	return s
}

func randomCell(gen *rand.Rand, c sheet.Col) sheet.Cell {
	if gen.Intn(4) == 0 {
		return sheet.Cell{Lacks: true}
	}
	if c.Kind == sheet.Choice {
		return sheet.Cell{Word: gen.Intn(len(c.Words))}
	}
	q, _ := frac.Over(int64(gen.Intn(40)-20), int64(1+gen.Intn(3)))
	return sheet.Cell{Q: q}
}

func randomColumns(gen *rand.Rand, s sheet.Sheet) []int {
	var cols []int
	for i := range s.Cols {
		if gen.Intn(3) > 0 {
			cols = append(cols, i)
		}
	}
	return cols
}

// 7.1

func TestCheckFindsEachError(t *testing.T) {
	p := fitted(t, parsed(t, small), []int{0, 1, 3}, Range)
	one := frac.Of(1)
	for name, x := range map[string]struct {
		change func(p *Plan)
		want   api.Errno
	}{
		"nothing":                  {func(p *Plan) {}, api.OK},
		"no columns":               {func(p *Plan) { p.Cols = nil }, api.ErrShape},
		"too many columns":         {func(p *Plan) { p.Cols = make([]sheet.Col, api.MaxCols+1) }, api.ErrShape},
		"no name":                  {func(p *Plan) { p.Cols[2].Name = "9" }, api.ErrName},
		"a word that is no name":   {func(p *Plan) { p.Cols[1].Words[2] = "" }, api.ErrName},
		"an unknown kind":          {func(p *Plan) { p.Cols[2].Kind = 3 }, api.ErrKind},
		"a Number with words":      {func(p *Plan) { p.Cols[2].Words = []string{"a"} }, api.ErrKind},
		"a Choice without words":   {func(p *Plan) { p.Cols[3].Words = nil }, api.ErrKind},
		"a name twice":             {func(p *Plan) { p.Cols[2].Name = "x" }, api.ErrIs},
		"a word twice":             {func(p *Plan) { p.Cols[1].Words[2] = "b" }, api.ErrIs},
		"no Uses":                  {func(p *Plan) { p.Uses = nil }, api.ErrShape},
		"empty Uses":               {func(p *Plan) { p.Uses = []Use{} }, api.ErrShape},
		"one Use":                  {func(p *Plan) { p.Uses = p.Uses[2:] }, api.OK},
		"Col below 0":              {func(p *Plan) { p.Uses[0].Col = -1 }, api.ErrArg},
		"Col far below 0":          {func(p *Plan) { p.Uses[0].Col = -1 << 63 }, api.ErrArg},
		"Col too great":            {func(p *Plan) { p.Uses[2].Col = 4 }, api.ErrArg},
		"Col far too great":        {func(p *Plan) { p.Uses[2].Col = 1<<63 - 1 }, api.ErrArg},
		"Col as before":            {func(p *Plan) { p.Uses[1] = p.Uses[0] }, api.ErrArg},
		"Col below that before":    {func(p *Plan) { p.Uses[0], p.Uses[1] = p.Uses[1], p.Uses[0] }, api.ErrArg},
		"Col of a like column":     {func(p *Plan) { p.Uses[0].Col, p.Uses = 2, p.Uses[:1] }, api.OK},
		"Col of another width":     {func(p *Plan) { p.Uses[1].Col, p.Uses[1].Word, p.Uses = 3, 0, p.Uses[:2] }, api.ErrArg},
		"Number of Width 0":        {func(p *Plan) { p.Uses[0].Width = 0 }, api.ErrArg},
		"Number of Width 2":        {func(p *Plan) { p.Uses[0].Width = 2 }, api.ErrArg},
		"Number of Width -1":       {func(p *Plan) { p.Uses[0].Width = -1 }, api.ErrArg},
		"Number with Word 1":       {func(p *Plan) { p.Uses[0].Word = 1 }, api.ErrArg},
		"Number with Word -1":      {func(p *Plan) { p.Uses[0].Word = -1 }, api.ErrArg},
		"Number with By 0":         {func(p *Plan) { p.Uses[0].By = frac.Q{} }, api.ErrArg},
		"Number with By below 0":   {func(p *Plan) { p.Uses[0].By = p.Uses[0].By.Neg() }, api.ErrArg},
		"Number with another By":   {func(p *Plan) { p.Uses[0].By = number(t, "1/1000000") }, api.OK},
		"Number with other fields": {func(p *Plan) { p.Uses[0].Fill, p.Uses[0].Shift = one.Neg(), frac.Of(99) }, api.OK},
		"Number with fields 0":     {func(p *Plan) { p.Uses[0].Fill, p.Uses[0].Shift = frac.Q{}, frac.Q{} }, api.OK},
		"Choice of Width 1":        {func(p *Plan) { p.Uses[1].Width = 1 }, api.ErrArg},
		"Choice of Width 2":        {func(p *Plan) { p.Uses[1].Width = 2 }, api.ErrArg},
		"Choice of Width 4":        {func(p *Plan) { p.Uses[1].Width = 4 }, api.ErrArg},
		"Choice with last Word":    {func(p *Plan) { p.Uses[1].Word = 2 }, api.OK},
		"Choice with Word 0":       {func(p *Plan) { p.Uses[1].Word = 0 }, api.OK},
		"Choice with Word 3":       {func(p *Plan) { p.Uses[1].Word = 3 }, api.ErrArg},
		"Choice with Word -1":      {func(p *Plan) { p.Uses[1].Word = -1 }, api.ErrArg},
		"Choice with a Fill":       {func(p *Plan) { p.Uses[1].Fill = one }, api.ErrArg},
		"Choice with a Shift":      {func(p *Plan) { p.Uses[1].Shift = one }, api.ErrArg},
		"Choice with a By":         {func(p *Plan) { p.Uses[1].By = one }, api.ErrArg},
		"Choice with a By below 0": {func(p *Plan) { p.Uses[2].By = one.Neg() }, api.ErrArg},
		"columns, then Uses":       {func(p *Plan) { p.Uses, p.Cols[3].Name = nil, "x" }, api.ErrIs},
		"columns, then a Use":      {func(p *Plan) { p.Uses[0].Col, p.Cols[3].Name = -1, "" }, api.ErrName},
	} {
		c := copied(p)
		x.change(&c)
		if e := Check(c); e != x.want {
			t.Error(name, e, x.want)
		}
	}
	if e := Check(Plan{}); e != api.ErrShape {
		t.Error(e)
	}
}

func TestCheckOfWidePlans(t *testing.T) {
	s := parsed(t, wide)
	full := fitted(t, s, []int{0, 1}, Plain)
	if Width(full) != api.MaxCols {
		t.Error(Width(full))
	}
	long := copied(full)
	long.Uses = append(long.Uses, fitted(t, s, []int{3}, Plain).Uses[0])
	if Check(long) != api.ErrLong || Width(long) != api.MaxCols+1 {
		t.Error(Check(long), Width(long))
	}
	long.Uses[2].Word = 1
	if e := Check(long); e != api.ErrArg {
		t.Error(e)
	}
	long.Cols[3].Kind = 7
	if e := Check(long); e != api.ErrKind {
		t.Error(e)
	}
	if w := Width(Plan{}); w != 0 {
		t.Error(w)
	}
	if w := Width(fitted(t, s, []int{1, 2, 3}, Plain)); w != 10 {
		t.Error(w)
	}
}

// 7.3

func TestSame(t *testing.T) {
	p := fitted(t, parsed(t, small), []int{0, 1, 3}, Spread)
	one := frac.Of(1)
	for i, change := range []func(p *Plan){
		func(p *Plan) { p.Cols = nil },
		func(p *Plan) { p.Cols = p.Cols[:3] },
		func(p *Plan) { p.Cols[2].Name = "Z" },
		func(p *Plan) { p.Cols[2].Kind = 0 },
		func(p *Plan) { p.Cols[1].Words[0] = "A" },
		func(p *Plan) { p.Cols[1].Words = p.Cols[1].Words[:2] },
		func(p *Plan) { p.Cols[2].Words = []string{"a"} },
		func(p *Plan) { p.Uses = nil },
		func(p *Plan) { p.Uses = p.Uses[:2] },
		func(p *Plan) { p.Uses[1].Col++ },
		func(p *Plan) { p.Uses[1].Width-- },
		func(p *Plan) { p.Uses[1].Word++ },
		func(p *Plan) { p.Uses[0].Fill = p.Uses[0].Fill.Add(one) },
		func(p *Plan) { p.Uses[0].Shift = frac.Q{} },
		func(p *Plan) { p.Uses[0].By = p.Uses[0].By.Neg() },
		func(p *Plan) { p.Uses[2].By = one },
		func(p *Plan) { p.Uses[0], p.Uses[1] = p.Uses[1], p.Uses[0] },
	} {
		c := copied(p)
		if !Same(p, c) || !Same(c, p) {
			t.Fatal(i)
		}
		change(&c)
		if Same(p, c) || Same(c, p) || !Same(c, c) {
			t.Error(i)
		}
	}
	if !Same(Plan{}, Plan{Cols: []sheet.Col{}, Uses: []Use{}}) || Same(Plan{}, p) || Same(p, Plan{}) {
		t.Error("empty plans")
	}
	c := copied(p)
	c.Cols[0].Words = []string{}
	c.Uses[0].Shift = number(t, "8/2")
	if !Same(p, c) || !Same(c, p) {
		t.Error("equal plans")
	}
}

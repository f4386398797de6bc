package prep

import (
	"fmt"
	"math/big"
	"math/rand"
	"slices"
	"strings"
	"testing"

	"abaculus/api"
	"abaculus/frac"
	"abaculus/sheet"
)

// 7.2

func TestFitOfEachEncoding(t *testing.T) {
	s := parsed(t, small)
	choices := []string{"1 3 1: 0 0 0", "3 2 1: 0 0 0"}
	for how, want := range [][]string{
		{"0 1 0: 4 0 1", "2 1 0: 11/9 0 1"},
		{"0 1 0: 4 2 4", "2 1 0: 11/9 1 2/3"},
		{"0 1 0: 4 4 1", "2 1 0: 11/9 11/9 2/9"},
	} {
		p := fitted(t, s, []int{0, 1, 2, 3}, how)
		all := []string{want[0], choices[0], want[1], choices[1]}
		for i, u := range p.Uses {
			if showUse(u) != all[i] {
				t.Error(how, i, showUse(u))
			}
		}
		if len(p.Uses) != 4 || !sameColumns(p.Cols, s.Cols) {
			t.Error(how, p)
		}
		for i, text := range all {
			part := fitted(t, s, []int{i}, how)
			if len(part.Uses) != 1 || showUse(part.Uses[0]) != text || !sameColumns(part.Cols, s.Cols) {
				t.Error(how, i, part)
			}
		}
	}
	if Plain != 0 || Range != 1 || Spread != 2 {
		t.Error("constants")
	}
}

func TestFitOfSingleColumns(t *testing.T) {
	for text, want := range map[string][3]string{
		"x:number\n2\n4\n?\n":                  {"0 1 0: 3 0 1", "0 1 0: 3 2 2", "0 1 0: 3 3 2/3"},
		"x:number\n7\n":                        {"0 1 0: 7 0 1", "0 1 0: 7 7 1", "0 1 0: 7 7 1"},
		"x:number\n-7\n?\n":                    {"0 1 0: -7 0 1", "0 1 0: -7 -7 1", "0 1 0: -7 -7 1"},
		"x:number\n0.5\n1/2\n2/4\n":            {"0 1 0: 1/2 0 1", "0 1 0: 1/2 1/2 1", "0 1 0: 1/2 1/2 1"},
		"x:number\n0\n":                        {"0 1 0: 0 0 1", "0 1 0: 0 0 1", "0 1 0: 0 0 1"},
		"x:number\n?\n?\n?\n9\n-1":             {"0 1 0: 4 0 1", "0 1 0: 4 -1 10", "0 1 0: 4 4 2"},
		"x:number\n0\n0\n3\n":                  {"0 1 0: 1 0 1", "0 1 0: 1 0 3", "0 1 0: 1 1 4/3"},
		"x:number\n0\n3\n3\n":                  {"0 1 0: 2 0 1", "0 1 0: 2 0 3", "0 1 0: 2 2 4/3"},
		"x:number\n-1/3\n-1/2\n":               {"0 1 0: -5/12 0 1", "0 1 0: -5/12 -1/2 1/6", "0 1 0: -5/12 -5/12 1/12"},
		"k:choice(a|b|c)\nc\nb\n":              {"0 3 1: 0 0 0", "0 3 1: 0 0 0", "0 3 1: 0 0 0"},
		"k:choice(a|b)\nb\n?\n?\n?":            {"0 2 1: 0 0 0", "0 2 1: 0 0 0", "0 2 1: 0 0 0"},
		"k:choice(a)\na\n":                     {"0 1 0: 0 0 0", "0 1 0: 0 0 0", "0 1 0: 0 0 0"},
		"k:choice(c|b|a)\na\nb\nb\na\n?\n?\n?": {"0 3 1: 0 0 0", "0 3 1: 0 0 0", "0 3 1: 0 0 0"},
		"k:choice(c|b|a)\na\nb\nb\na\na\n":     {"0 3 2: 0 0 0", "0 3 2: 0 0 0", "0 3 2: 0 0 0"},
	} {
		for how := range 3 {
			p := fitted(t, parsed(t, text), []int{0}, how)
			if len(p.Uses) != 1 || showUse(p.Uses[0]) != want[how] {
				t.Errorf("%q %d: %v", text, how, showUse(p.Uses[0]))
			}
		}
	}
}

func TestFitErrorsInOrder(t *testing.T) {
	s, w := parsed(t, small), parsed(t, wide)
	with := func(s sheet.Sheet, change func(s *sheet.Sheet)) sheet.Sheet {
		s = copiedSheet(s)
		change(&s)
		return s
	}
	noRows := func(s *sheet.Sheet) { s.Rows = nil }
	lacking := func(cols ...int) func(s *sheet.Sheet) {
		return func(s *sheet.Sheet) {
			for _, row := range s.Rows {
				for _, col := range cols {
					row[col] = sheet.Cell{Lacks: true}
				}
			}
		}
	}
	badCell := func(s *sheet.Sheet) { s.Rows[1][2].Word = 1 }
	short := func(s *sheet.Sheet) { s.Rows[1] = s.Rows[1][:1] }
	many := func(s *sheet.Sheet) { s.Rows = make([][]sheet.Cell, api.MaxRows+1) }
	for name, x := range map[string]struct {
		s    sheet.Sheet
		cols []int
		how  int
		want api.Errno
	}{
		"an empty sheet":            {sheet.Sheet{}, nil, 9, api.ErrShape},
		"no name":                   {with(s, func(s *sheet.Sheet) { s.Cols[3].Name = "" }), []int{9}, 9, api.ErrName},
		"no kind":                   {with(s, func(s *sheet.Sheet) { s.Cols[3].Kind = 9 }), nil, 0, api.ErrKind},
		"a name twice":              {with(s, func(s *sheet.Sheet) { s.Cols[3].Name = "x" }), nil, 0, api.ErrIs},
		"too many rows":             {with(s, many), nil, 9, api.ErrLong},
		"a short row":               {with(s, short), nil, 9, api.ErrShape},
		"a bad cell":                {with(w, badCell), nil, 0, api.ErrArg},
		"a bad cell of no matter":   {with(w, badCell), []int{3}, 0, api.ErrArg},
		"how 3":                     {s, []int{0}, 3, api.ErrArg},
		"how -1":                    {s, []int{0}, -1, api.ErrArg},
		"how far off":               {s, []int{0}, 1 << 40, api.ErrArg},
		"how 3, no columns":         {s, nil, 3, api.ErrArg},
		"how 3, no rows":            {with(s, noRows), []int{0}, 3, api.ErrArg},
		"how 3, too wide":           {w, []int{0, 1, 2}, 3, api.ErrArg},
		"how 3, lacking":            {with(s, lacking(0)), []int{0}, 3, api.ErrArg},
		"descending":                {s, []int{1, 0}, 0, api.ErrArg},
		"descending at the end":     {s, []int{0, 3, 2}, 0, api.ErrArg},
		"twice":                     {s, []int{0, 0}, 0, api.ErrArg},
		"no such column":            {s, []int{0, 4}, 0, api.ErrArg},
		"no such column, first":     {s, []int{4, 0}, 0, api.ErrArg},
		"a column below 0":          {s, []int{-1}, 0, api.ErrArg},
		"a column far below 0":      {s, []int{-1 << 63, 0}, 0, api.ErrArg},
		"a column far off":          {s, []int{0, 1<<63 - 1}, 0, api.ErrArg},
		"no such column, no rows":   {with(s, noRows), []int{4}, 0, api.ErrArg},
		"no such column, too wide":  {w, []int{0, 1, 2, 4}, 0, api.ErrArg},
		"no columns":                {s, nil, 0, api.ErrShape},
		"empty columns":             {s, []int{}, 2, api.ErrShape},
		"no rows":                   {with(s, noRows), []int{0}, 0, api.ErrShape},
		"no rows, too wide":         {with(w, noRows), []int{0, 1, 2}, 0, api.ErrShape},
		"too wide":                  {w, []int{0, 1, 2}, 0, api.ErrLong},
		"too wide by a word":        {w, []int{0, 1, 3}, 1, api.ErrLong},
		"too wide, lacking":         {with(w, lacking(0, 1, 2)), []int{0, 1, 2}, 2, api.ErrLong},
		"as wide as can be":         {w, []int{0, 1}, 0, api.OK},
		"numbers are lacking":       {with(s, lacking(0)), []int{0, 1}, 0, api.ErrLacks},
		"last numbers are lacking":  {with(s, lacking(2)), []int{0, 1, 2}, 1, api.ErrLacks},
		"words are lacking":         {with(s, lacking(1)), []int{0, 1}, 2, api.ErrLacks},
		"words of one are lacking":  {with(w, lacking(3)), []int{3}, 2, api.ErrLacks},
		"others are lacking":        {with(s, lacking(0, 1)), []int{2, 3}, 2, api.OK},
		"one row, in which one is":  {parsed(t, "x:number,y:number\n1,?\n"), []int{0}, 2, api.OK},
		"one row, in which none is": {parsed(t, "x:number,y:number\n1,?\n"), []int{1}, 2, api.ErrLacks},
	} {
		before, cols := copiedSheet(x.s), slices.Clone(x.cols)
		p, e := Fit(x.s, x.cols, x.how)
		if e != x.want || e != api.OK && !isZero(p) {
			t.Error(name, e, p)
		}
		if !sheet.Same(before, x.s) || !slices.Equal(cols, x.cols) {
			t.Error(name, "arguments changed")
		}
	}
}

// wantUse is 7.2 word by word: what showUse shows of the Use of a column, or
// false if all its values are missing.
func wantUse(s sheet.Sheet, col, how int) (string, bool) {
	if s.Cols[col].Kind == sheet.Choice {
		return wantChoice(s, col)
	}
	var present, values []*big.Rat
	for _, row := range s.Rows {
		if !row[col].Lacks {
			present = append(present, rat(row[col].Q))
		}
	}
	if len(present) == 0 {
		return "", false
	}
	fill := mean(present)
	for _, row := range s.Rows {
		if row[col].Lacks {
			values = append(values, fill)
		} else {
			values = append(values, rat(row[col].Q))
		}
	}
	shift, by := new(big.Rat), big.NewRat(1, 1)
	switch how {
	case 1:
		shift = slices.MinFunc(values, (*big.Rat).Cmp)
		by = new(big.Rat).Sub(slices.MaxFunc(values, (*big.Rat).Cmp), shift)
	case 2:
		shift = mean(values)
		by = mean(distances(values, shift))
	}
	if by.Sign() == 0 {
		by = big.NewRat(1, 1)
	}
	return fmt.Sprintf("%d 1 0: %s %s %s", col, fill.RatString(), shift.RatString(), by.RatString()), true
}

func wantChoice(s sheet.Sheet, col int) (string, bool) {
	words := s.Cols[col].Words
	best, most := 0, 0
	for word := range words {
		n := 0
		for _, row := range s.Rows {
			if !row[col].Lacks && row[col].Word == word {
				n++
			}
		}
		if n > most {
			best, most = word, n
		}
	}
	return fmt.Sprintf("%d %d %d: 0 0 0", col, len(words), best), most > 0
}

func mean(l []*big.Rat) *big.Rat {
	sum := new(big.Rat)
	for _, v := range l {
		sum.Add(sum, v)
	}
	return sum.Quo(sum, big.NewRat(int64(len(l)), 1))
}

func distances(l []*big.Rat, center *big.Rat) []*big.Rat {
	var list []*big.Rat
	for _, v := range l {
		d := new(big.Rat).Sub(v, center)
		list = append(list, d.Abs(d))
	}
	return list
}

func rat(q frac.Q) *big.Rat {
	r, _ := new(big.Rat).SetString(q.Text())
	return r
}

func TestFitOfRandomSheets(t *testing.T) {
	gen := rand.New(rand.NewSource(72))
	kinds := map[api.Errno]int{}
	for range 3000 {
		s := randomSheet(gen)
		cols, how := randomColumns(gen, s), gen.Intn(3)
		var uses []string
		want := api.OK
		for _, col := range cols {
			u, ok := wantUse(s, col, how)
			if !ok {
				want = api.ErrLacks
			}
			uses = append(uses, u)
		}
		if len(cols) == 0 {
			want = api.ErrShape
		}
		p, e := Fit(s, cols, how)
		if kinds[e]++; e != want {
			t.Fatal(s, cols, how, e, want)
		}
		if e == api.OK {
			agrees(t, p, s, uses)
		}
	}
	if kinds[api.OK] < 1000 || kinds[api.ErrLacks] < 100 || kinds[api.ErrShape] < 100 {
		t.Error(kinds)
	}
}

// agrees checks that p is valid and has the columns of s and these Uses.
func agrees(t *testing.T, p Plan, s sheet.Sheet, uses []string) {
	t.Helper()
	if Check(p) != api.OK || !sameColumns(p.Cols, s.Cols) || len(p.Uses) != len(uses) {
		t.Fatal(p, s)
	}
	for i, u := range p.Uses {
		if showUse(u) != uses[i] {
			t.Fatal(showUse(u), uses[i])
		}
	}
}

func TestFitOfLongNumbers(t *testing.T) {
	gen := rand.New(rand.NewSource(73))
	var text strings.Builder
	text.WriteString("x:number\n")
	for range 30 {
		for _, sign := range []string{"", "-"}[gen.Intn(2):] {
			text.WriteString(sign + digits(gen) + "/" + digits(gen) + "\n?\n")
		}
	}
	s := parsed(t, text.String())
	for how := range 3 {
		u, _ := wantUse(s, 0, how)
		agrees(t, fitted(t, s, []int{0}, how), s, []string{u})
	}
}

// digits returns the text of a number above 0.
func digits(gen *rand.Rand) string {
	list := make([]byte, 1+gen.Intn(40))
	for i := range list {
		list[i] = byte('1' + gen.Intn(9))
	}
	return string(list)
}

func TestPlansShareNoMemory(t *testing.T) {
	s := parsed(t, small)
	cols := []int{0, 1, 3}
	before := fitted(t, parsed(t, small), cols, Range)
	p := fitted(t, s, cols, Range)
	spoilCols(s.Cols)
	clear(cols)
	for _, row := range s.Rows {
		clear(row)
	}
	if !Same(p, before) {
		t.Error("a Plan keeps its arguments", p)
	}
	s = parsed(t, small)
	p, q := fitted(t, s, []int{0, 1, 3}, Range), fitted(t, s, []int{0, 1, 3}, Range)
	spoilCols(p.Cols)
	clear(p.Uses[:cap(p.Uses)])
	if !sheet.Same(s, parsed(t, small)) || !Same(q, before) {
		t.Error("two Plans or a Plan and its sheet share memory", s, q)
	}
	spoilCols(q.Cols[:2:2])
	if !slices.Equal(q.Cols[3].Words, []string{"p", "q"}) {
		t.Error("columns of a Plan share memory", q)
	}
}

package prep

import (
	"math/big"
	"math/rand"
	"slices"
	"testing"

	"abaculus/api"
	"abaculus/frac"
	"abaculus/sheet"
)

// badPlans are plans with the error that Check returns for them.
func badPlans(t *testing.T) map[api.Errno]Plan {
	p := fitted(t, parsed(t, wide), []int{0, 1}, Plain)
	changed := func(change func(p *Plan)) Plan {
		c := copied(p)
		change(&c)
		return c
	}
	return map[api.Errno]Plan{
		api.ErrShape: {},
		api.ErrName:  changed(func(p *Plan) { p.Cols[0].Name = "" }),
		api.ErrKind:  changed(func(p *Plan) { p.Cols[2].Kind = 0 }),
		api.ErrIs:    changed(func(p *Plan) { p.Cols[1].Name = "v" }),
		api.ErrArg:   changed(func(p *Plan) { p.Uses[1].Word = 8 }),
		api.ErrLong:  changed(func(p *Plan) { p.Uses = append(p.Uses, Use{Col: 2, Width: 1, By: frac.Of(1)}) }),
	}
}

// 7.3

func TestRow(t *testing.T) {
	s := parsed(t, small)
	p := fitted(t, s, []int{0, 1, 2, 3}, Range)
	if got := showUse(p.Uses[2]); got != "2 1 0: 11/9 1 2/3" {
		t.Fatal(got)
	}
	half, _ := frac.Over(1, 2)
	for i, x := range []struct {
		cells []sheet.Cell
		want  string
	}{
		{s.Rows[0], "0 0 1 0 0 0 1"},
		{s.Rows[1], "1/2 0 1 0 0 1 0"},
		{s.Rows[2], "1/2 0 1 0 1 0 1"},
		{s.Rows[3], "1 1 0 0 1/3 0 1"},
		{[]sheet.Cell{{}, {}, {}, {}}, "-1/2 1 0 0 -3/2 1 0"},
		{[]sheet.Cell{{Q: half}, {Word: 2}, {Q: half.Neg()}, {Word: 1}}, "-3/8 0 0 1 -9/4 0 1"},
		{[]sheet.Cell{{Lacks: true}, {Lacks: true}, {Lacks: true}, {Lacks: true}}, "1/2 0 1 0 1/3 0 1"},
	} {
		before := slices.Clone(x.cells)
		if got, e := Row(p, x.cells); e != api.OK || show(got) != x.want {
			t.Error(i, e, show(got))
		}
		if !sheet.Same(sheet.Sheet{Rows: [][]sheet.Cell{before}}, sheet.Sheet{Rows: [][]sheet.Cell{x.cells}}) {
			t.Error(i, "cells changed")
		}
	}
	part := fitted(t, s, []int{2, 3}, Spread)
	if got, e := Row(part, s.Rows[0]); e != api.OK || show(got) != "-1 0 1" {
		t.Error(e, show(got))
	}
}

func TestRowOfAPlanByHand(t *testing.T) {
	p := Plan{
		Cols: []sheet.Col{{Name: "k", Kind: sheet.Choice, Words: []string{"a", "b"}}, {Name: "x", Kind: sheet.Number}},
		Uses: []Use{{Col: 0, Width: 2, Word: 1}, {Col: 1, Width: 1, Fill: frac.Of(7), Shift: frac.Of(-5), By: number(t, "2/3")}},
	}
	for text, want := range map[string]string{"?,?\n": "0 1 18", "a,1\n": "1 0 9", "b,-5\n": "0 1 0", "b,-6\n": "0 1 -3/2"} {
		s := parsed(t, "k:choice(a|b),x:number\n"+text)
		if got, e := Row(p, s.Rows[0]); e != api.OK || show(got) != want {
			t.Error(text, e, show(got))
		}
		if got, e := Apply(p, s); e != api.OK || len(got) != 1 || show(got[0]) != want {
			t.Error(text, e, got)
		}
	}
}

func TestRowErrorsInOrder(t *testing.T) {
	s := parsed(t, small)
	p := fitted(t, s, []int{0, 1}, Plain)
	fine := sheet.Cell{}
	for name, x := range map[string]struct {
		cells []sheet.Cell
		want  api.Errno
	}{
		"fine":                            {[]sheet.Cell{fine, fine, fine, fine}, api.OK},
		"no cells":                        {nil, api.ErrShape},
		"too few cells":                   {s.Rows[0][:3], api.ErrShape},
		"too many cells":                  {append(slices.Clone(s.Rows[0]), fine), api.ErrShape},
		"too few cells, one bad":          {[]sheet.Cell{{Word: 1}}, api.ErrShape},
		"a Number with a Word":            {[]sheet.Cell{{Word: 1}, fine, fine, fine}, api.ErrArg},
		"a Word too great":                {[]sheet.Cell{fine, {Word: 3}, fine, fine}, api.ErrArg},
		"a Word below 0":                  {[]sheet.Cell{fine, {Word: -1}, fine, fine}, api.ErrArg},
		"a Choice with a number":          {[]sheet.Cell{fine, {Q: frac.Of(1)}, fine, fine}, api.ErrArg},
		"a missing Choice with a Word":    {[]sheet.Cell{fine, {Lacks: true, Word: 1}, fine, fine}, api.ErrArg},
		"a missing Number with a number":  {[]sheet.Cell{{Lacks: true, Q: frac.Of(1)}, fine, fine, fine}, api.ErrArg},
		"a bad Number without a Use":      {[]sheet.Cell{fine, fine, {Word: 1}, fine}, api.ErrArg},
		"a bad Choice without a Use":      {[]sheet.Cell{fine, fine, fine, {Word: 2}}, api.ErrArg},
		"the last Word of another column": {[]sheet.Cell{fine, fine, fine, {Word: 1}}, api.OK},
	} {
		list, e := Row(p, x.cells)
		if e != x.want || e != api.OK && list != nil || e == api.OK && len(list) != 4 {
			t.Error(name, e, list)
		}
	}
	for e, bad := range badPlans(t) {
		for _, cells := range [][]sheet.Cell{nil, s.Rows[0], {{Word: -1}, {}, {}, {}}} {
			if list, got := Row(bad, cells); got != e || list != nil {
				t.Error(e, got, list)
			}
		}
	}
}

func TestApplyErrorsInOrder(t *testing.T) {
	s := parsed(t, small)
	p := fitted(t, s, []int{0, 1}, Plain)
	with := func(change func(s *sheet.Sheet)) sheet.Sheet {
		c := copiedSheet(s)
		change(&c)
		return c
	}
	other := parsed(t, "q:number\n1\n")
	for name, x := range map[string]struct {
		s    sheet.Sheet
		want api.Errno
	}{
		"fine":                       {s, api.OK},
		"no rows":                    {with(func(s *sheet.Sheet) { s.Rows = nil }), api.OK},
		"an empty sheet":             {sheet.Sheet{}, api.ErrShape},
		"too many rows":              {with(func(s *sheet.Sheet) { s.Rows = make([][]sheet.Cell, api.MaxRows+1) }), api.ErrLong},
		"a bad row of other columns": {sheet.Sheet{Cols: other.Cols, Rows: [][]sheet.Cell{{}}}, api.ErrShape},
		"a bad cell":                 {with(func(s *sheet.Sheet) { s.Rows[3][3].Word = 2 }), api.ErrArg},
		"a name twice":               {with(func(s *sheet.Sheet) { s.Cols[3].Name = "x" }), api.ErrIs},
		"no name":                    {with(func(s *sheet.Sheet) { s.Cols[3].Name = "" }), api.ErrName},
		"other columns":              {other, api.ErrKind},
		"a column less":              {mustWithout(t, s, 3), api.ErrKind},
		"another name":               {with(func(s *sheet.Sheet) { s.Cols[0].Name = "X" }), api.ErrKind},
		"another name without a Use": {with(func(s *sheet.Sheet) { s.Cols[3].Name = "X" }), api.ErrKind},
		"another word":               {with(func(s *sheet.Sheet) { s.Cols[1].Words[2] = "d" }), api.ErrKind},
		"a word less":                {with(func(s *sheet.Sheet) { s.Cols[1].Words = s.Cols[1].Words[:2] }), api.ErrKind},
		"words in another order":     {with(func(s *sheet.Sheet) { slices.Reverse(s.Cols[3].Words) }), api.ErrKind},
		"another kind":               {with(func(s *sheet.Sheet) { s.Rows, s.Cols[0].Kind, s.Cols[0].Words = nil, 2, []string{"a"} }), api.ErrKind},
	} {
		list, e := Apply(p, x.s)
		if e != x.want || e != api.OK && list != nil || e == api.OK && len(list) != len(x.s.Rows) {
			t.Error(name, e, list)
		}
	}
	for e, bad := range badPlans(t) {
		for _, u := range []sheet.Sheet{{}, s, {Cols: bad.Cols}} {
			if list, got := Apply(bad, u); got != e || list != nil {
				t.Error(e, got, list)
			}
		}
	}
}

func mustWithout(t *testing.T, s sheet.Sheet, col int) sheet.Sheet {
	t.Helper()
	s, e := sheet.Without(s, col)
	if e != api.OK {
		t.Fatal(e)
	}
	return s
}

func TestBack(t *testing.T) {
	s := parsed(t, small)
	p := fitted(t, s, []int{0, 1, 3}, Range)
	for x, want := range map[string]string{
		"0 1 0 0 1 0":                "2,a,?,p\n",
		"1/2 0 1 0 0 1":              "4,b,?,q\n",
		"-1 0 0 1 0 1":               "-2,c,?,q\n",
		"2.25 0 0 0 0 0":             "11,a,?,p\n",
		"0 0 1/2 1/2 1 1":            "2,b,?,p\n",
		"0 -1 -2 -1 -2 -1":           "2,a,?,q\n",
		"0 -3 -2 -1 -1 -2":           "2,c,?,p\n",
		"0 -3 -2 -2 -1/2 -1/3":       "2,b,?,q\n",
		"1/12 1/3 0.4 3/8 999 1000":  "7/3,b,?,q\n",
		"-1/12 1/3 1/3 1/3 9 900/99": "5/3,a,?,q\n",
	} {
		list := numbers(t, x)
		cells, e := Back(p, list)
		text, _ := sheet.Text(sheet.Sheet{Cols: s.Cols, Rows: [][]sheet.Cell{cells}})
		if e != api.OK || text != "x:number,k:choice(a|b|c),z:number,l:choice(p|q)\n"+want {
			t.Error(x, e, text)
		}
		if !frac.Same(list, numbers(t, x)) {
			t.Error("numbers changed", x)
		}
	}
	last := fitted(t, s, []int{2}, Spread)
	if cells, e := Back(last, numbers(t, "-3/2")); e != api.OK || len(cells) != 4 || !cells[0].Lacks || !cells[1].Lacks || !cells[3].Lacks || cells[2].Lacks || cells[2].Q.Text() != "8/9" {
		t.Error(cells, e)
	}
}

func TestBackErrorsInOrder(t *testing.T) {
	p := fitted(t, parsed(t, small), []int{0, 1}, Plain)
	for n := range 8 {
		cells, e := Back(p, make([]frac.Q, n))
		if n == 4 && (e != api.OK || len(cells) != 4) || n != 4 && (e != api.ErrShape || cells != nil) {
			t.Error(n, e, cells)
		}
	}
	for e, bad := range badPlans(t) {
		for _, n := range []int{0, 4, 20, 21} {
			if cells, got := Back(bad, make([]frac.Q, n)); got != e || cells != nil {
				t.Error(e, got, cells)
			}
		}
	}
}

// wantRow is what 7.1 says of the cells.
func wantRow(p Plan, cells []sheet.Cell) []frac.Q {
	var list []frac.Q
	for _, u := range p.Uses {
		x := cells[u.Col]
		if p.Cols[u.Col].Kind == sheet.Number {
			q := rat(x.Q)
			if x.Lacks {
				q = rat(u.Fill)
			}
			q.Sub(q, rat(u.Shift))
			q.Quo(q, rat(u.By))
			exact, _ := frac.Parse(q.RatString())
			list = append(list, exact)
			continue
		}
		for word := range u.Width {
			if !x.Lacks && x.Word == word || x.Lacks && u.Word == word {
				list = append(list, frac.Of(1))
			} else {
				list = append(list, frac.Q{})
			}
		}
	}
	return list
}

// wantBack is what 7.3 says of the numbers.
func wantBack(p Plan, x []frac.Q) []sheet.Cell {
	cells := make([]sheet.Cell, len(p.Cols))
	for i := range cells {
		cells[i].Lacks = true
	}
	at := 0
	for _, u := range p.Uses {
		part := x[at : at+u.Width]
		at += u.Width
		if p.Cols[u.Col].Kind == sheet.Number {
			q := new(big.Rat).Mul(rat(part[0]), rat(u.By))
			exact, _ := frac.Parse(q.Add(q, rat(u.Shift)).RatString())
			cells[u.Col] = sheet.Cell{Q: exact}
			continue
		}
		top := slices.MaxFunc(part, frac.Q.Cmp)
		cells[u.Col] = sheet.Cell{Word: slices.IndexFunc(part, func(q frac.Q) bool { return q.Cmp(top) == 0 })}
	}
	return cells
}

func sameCells(a, b []sheet.Cell) bool {
	return sheet.Same(sheet.Sheet{Rows: [][]sheet.Cell{a}}, sheet.Sheet{Rows: [][]sheet.Cell{b}})
}

func TestRowsOfRandomSheets(t *testing.T) {
	gen := rand.New(rand.NewSource(74))
	plans := 0
	for range 2000 {
		s := randomSheet(gen)
		p, e := Fit(s, randomColumns(gen, s), gen.Intn(3))
		if e != api.OK {
			continue
		}
		plans++
		u := sheet.Sheet{Cols: s.Cols}
		for range 1 + gen.Intn(5) {
			var cells []sheet.Cell
			for _, c := range s.Cols {
				cells = append(cells, randomCell(gen, c))
			}
			u.Rows = append(u.Rows, cells)
		}
		before, kept := copied(p), copiedSheet(u)
		all, e := Apply(p, u)
		if e != api.OK || len(all) != len(u.Rows) {
			t.Fatal(p, u, e)
		}
		for i, cells := range u.Rows {
			one, e := Row(p, cells)
			if want := wantRow(p, cells); e != api.OK || !frac.Same(one, want) || !frac.Same(all[i], want) {
				t.Fatal(p, cells, e, show(one), show(all[i]), show(want))
			}
		}
		x := make([]frac.Q, Width(p))
		for i := range x {
			x[i], _ = frac.Over(int64(gen.Intn(9)-4), int64(1+gen.Intn(4)))
		}
		if cells, e := Back(p, x); e != api.OK || !sameCells(cells, wantBack(p, x)) {
			t.Fatal(p, show(x), e, cells)
		}
		if !Same(p, before) || !sheet.Same(u, kept) {
			t.Fatal("arguments changed")
		}
	}
	if plans < 800 {
		t.Error(plans)
	}
}

func TestRowsShareNoMemory(t *testing.T) {
	s := parsed(t, small)
	p := fitted(t, s, []int{0, 1, 3}, Range)
	all, _ := Apply(p, s)
	want, _ := Apply(p, s)
	for i := range all {
		list := all[i][:cap(all[i])]
		for k := range list {
			list[k] = frac.Of(77)
		}
		for k := i + 1; k < len(all); k++ {
			if !frac.Same(all[k], want[k]) {
				t.Error(i, k, show(all[k]))
			}
		}
	}
	all[0] = append(all[0], frac.Of(5))
	if again, _ := Apply(p, s); !slices.EqualFunc(again, want, frac.Same) {
		t.Error(again)
	}
	one, _ := Row(p, s.Rows[0])
	clear(one)
	cells, _ := Back(p, want[0])
	clear(cells)
	if !Same(p, fitted(t, s, []int{0, 1, 3}, Range)) || !sheet.Same(s, parsed(t, small)) {
		t.Error("arguments changed")
	}
}

// 7.4

func TestAffineMapsChangeNoRows(t *testing.T) {
	gen := rand.New(rand.NewSource(75))
	for range 600 {
		s := randomSheet(gen)
		u := copiedSheet(s)
		for i, c := range s.Cols {
			factor, _ := frac.Over(int64(1+gen.Intn(20)), int64(1+gen.Intn(20)))
			more, _ := frac.Over(int64(gen.Intn(41)-20), int64(1+gen.Intn(7)))
			for k, row := range s.Rows {
				if c.Kind == sheet.Number && !row[i].Lacks {
					u.Rows[k][i].Q = row[i].Q.Mul(factor).Add(more)
				}
			}
		}
		cols := randomColumns(gen, s)
		for _, how := range []int{Range, Spread} {
			p, e := Fit(s, cols, how)
			q, f := Fit(u, cols, how)
			if e != f {
				t.Fatal(s, u, e, f)
			}
			x, e := Apply(p, s)
			y, f := Apply(q, u)
			if e != f || !slices.EqualFunc(x, y, frac.Same) {
				t.Fatal(s, u, e, f, x, y)
			}
		}
	}
}

func TestOtherUnitsChangeNoRows(t *testing.T) {
	a := parsed(t, "x:number\n1\n5/2\n?\n-7\n")
	for _, text := range []string{"x:number\n8\n12.5\n?\n-16\n", "x:number\n0.001\n0.0025\n?\n-0.007\n", "x:number\n98\n99.5\n?\n90\n"} {
		b := parsed(t, text)
		for _, how := range []int{Range, Spread} {
			x, _ := Apply(fitted(t, a, []int{0}, how), a)
			y, _ := Apply(fitted(t, b, []int{0}, how), b)
			if len(x) != 4 || !slices.EqualFunc(x, y, frac.Same) {
				t.Error(text, how, x, y)
			}
		}
		x, _ := Apply(fitted(t, a, []int{0}, Plain), a)
		y, _ := Apply(fitted(t, b, []int{0}, Plain), b)
		if slices.EqualFunc(x, y, frac.Same) {
			t.Error(text, "Plain")
		}
	}
}

func TestEqualNumbersMakeOnePlan(t *testing.T) {
	a := parsed(t, "x:number\n0.5\n-3\n2.50\n")
	b := parsed(t, "x:number\n2/4\n-6/2\n5/2\n")
	for how := range 3 {
		p, q := fitted(t, a, []int{0}, how), fitted(t, b, []int{0}, how)
		x, _ := Apply(p, b)
		y, _ := Apply(q, a)
		if !Same(p, q) || !slices.EqualFunc(x, y, frac.Same) {
			t.Error(how, p, q)
		}
	}
}

func TestBackRestoresRows(t *testing.T) {
	gen := rand.New(rand.NewSource(76))
	for range 1000 {
		s := randomSheet(gen)
		p, e := Fit(s, randomColumns(gen, s), gen.Intn(3))
		if e != api.OK {
			continue
		}
		for _, cells := range s.Rows {
			want := make([]sheet.Cell, len(cells))
			for i := range want {
				want[i].Lacks = true
			}
			for _, u := range p.Uses {
				if want[u.Col] = cells[u.Col]; cells[u.Col].Lacks {
					want[u.Col] = sheet.Cell{Q: u.Fill, Word: u.Word}
				}
			}
			x, _ := Row(p, cells)
			back, e := Back(p, x)
			if e != api.OK || !sameCells(back, want) {
				t.Fatal(p, cells, e, back)
			}
			if again, e := Row(p, back); e != api.OK || !frac.Same(again, x) {
				t.Fatal(p, back, e, again)
			}
		}
	}
}

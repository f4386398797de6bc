package sheet

import (
	"math"
	"slices"
	"strings"
	"testing"

	"abaculus/api"
	"abaculus/frac"
)

const mixed = "x:number,k:choice(a|b),y:number,l:choice(c|d|e)\n1,a,-1/2,e\n2,b,?,d\n3,?,4,c\n"

// invalid are sheets that Check has an error for.
func invalid() []Sheet {
	return []Sheet{
		{},
		{Cols: numbers(letters(api.MaxCols + 1)...)},
		{Cols: []Col{{}}},
		{Cols: []Col{{Name: "x"}}},
		{Cols: numbers("x", "x")},
		{Cols: []Col{choices("k", "a", "a")}},
		{Cols: numbers("x"), Rows: make([][]Cell, api.MaxRows+1)},
		{Cols: numbers("x"), Rows: [][]Cell{{}}},
		{Cols: numbers("x"), Rows: [][]Cell{{{Word: 1}}}},
		{Cols: []Col{choices("k", "a")}, Rows: [][]Cell{{{Word: 1}}}},
	}
}

// 6.3

func TestText(t *testing.T) {
	half, _ := frac.Over(-1, 2)
	s := Sheet{
		Cols: []Col{choices("k", "a"), {Name: "x", Kind: Number}, choices("Long_1", "b", "A", "c9_")},
		Rows: [][]Cell{
			{{Word: 0}, {Q: half}, {Word: 2}},
			{{Lacks: true}, {}, {Word: 1}},
			{{}, {Lacks: true}, {}},
		},
	}
	for rows, want := range []string{
		"k:choice(a),x:number,Long_1:choice(b|A|c9_)\n",
		"a,-1/2,c9_\n",
		"?,0,A\n",
		"a,?,b\n",
	} {
		part := Sheet{Cols: s.Cols, Rows: s.Rows[:rows]}
		before, e := Text(Sheet{Cols: s.Cols, Rows: s.Rows[:max(0, rows-1)]})
		if rows == 0 {
			before = ""
		}
		if text, e2 := Text(part); e != api.OK || e2 != api.OK || text != before+want {
			t.Error(rows, text, e, e2)
		}
	}
}

func TestTextOfLongNumbers(t *testing.T) {
	long, _ := frac.Parse(strings.Repeat("7", api.MaxDigits))
	long = long.Mul(long)
	s := Sheet{Cols: numbers("x"), Rows: make([][]Cell, api.MaxRows)}
	for i := range s.Rows {
		s.Rows[i] = []Cell{{Q: long}}
	}
	text, e := Text(s)
	if e != api.OK || text != "x:number\n"+strings.Repeat(long.Text()+"\n", api.MaxRows) {
		t.Error(len(text), e)
	}
	if _, f := Parse(text); f != (api.Fault{Kind: api.ErrLong}) {
		t.Error(f)
	}
}

func TestInvalidSheets(t *testing.T) {
	good := parsed(t, mixed)
	for i, s := range invalid() {
		want := Check(s)
		if want == api.OK {
			t.Fatal(i, "is valid")
		}
		if text, e := Text(s); e != want || text != "" {
			t.Error(i, text, e)
		}
		for _, rows := range [][]int{nil, {-1}, make([]int, api.MaxRows+1)} {
			if got, e := Take(s, rows); e != want || !isZero(got) {
				t.Error(i, got, e)
			}
		}
		for _, col := range []int{0, -1, 1, math.MaxInt} {
			got, e1 := Without(s, col)
			l, e2 := Numbers(s, col)
			m, e3 := Choices(s, col)
			if e1 != want || e2 != want || e3 != want || !isZero(got) || len(l)+len(m) != 0 {
				t.Error(i, col, e1, e2, e3)
			}
		}
		if got, e := Add(good, s); e != want || !isZero(got) {
			t.Error(i, e)
		}
		for k, u := range append(invalid(), good) {
			if got, e := Add(s, u); e != want || !isZero(got) {
				t.Error(i, k, e)
			}
		}
	}
}

func TestTake(t *testing.T) {
	s := parsed(t, mixed)
	lines := strings.SplitAfter(mixed, "\n")
	for _, rows := range [][]int{nil, {}, {0}, {2}, {0, 1, 2}, {2, 1, 0}, {1, 1, 1}, {2, 0, 2, 1, 0}, make([]int, api.MaxRows)} {
		want := lines[0]
		for _, row := range rows {
			want += lines[1+row]
		}
		given := slices.Clone(rows)
		got, e := Take(s, rows)
		if e != api.OK || !Same(got, parsed(t, want)) || len(got.Rows) != len(rows) {
			t.Error(rows, got, e)
		}
		if !slices.Equal(rows, given) {
			t.Error("the rows were changed")
		}
	}
	tooMany := make([]int, api.MaxRows+1)
	for _, c := range []struct {
		rows []int
		want api.Errno
	}{
		{[]int{3}, api.ErrArg},
		{[]int{-1}, api.ErrArg},
		{[]int{0, 1, math.MaxInt}, api.ErrArg},
		{[]int{math.MinInt, 0}, api.ErrArg},
		{tooMany, api.ErrLong},
		{append(slices.Clone(tooMany), 3), api.ErrArg},
		{append([]int{-1}, tooMany...), api.ErrArg},
	} {
		if got, e := Take(s, c.rows); e != c.want || !isZero(got) {
			t.Error(len(c.rows), e)
		}
	}
	if got, e := Take(parsed(t, "x:number\n"), []int{0}); e != api.ErrArg || !isZero(got) {
		t.Error(got, e)
	}
	if got, e := Take(parsed(t, "x:number\n"), nil); e != api.OK || !Same(got, parsed(t, "x:number")) {
		t.Error(got, e)
	}
}

func TestWithout(t *testing.T) {
	s := parsed(t, mixed)
	for col, want := range []string{
		"k:choice(a|b),y:number,l:choice(c|d|e)\na,-1/2,e\nb,?,d\n?,4,c\n",
		"x:number,y:number,l:choice(c|d|e)\n1,-1/2,e\n2,?,d\n3,4,c\n",
		"x:number,k:choice(a|b),l:choice(c|d|e)\n1,a,e\n2,b,d\n3,?,c\n",
		"x:number,k:choice(a|b),y:number\n1,a,-1/2\n2,b,?\n3,?,4\n",
	} {
		if got, e := Without(s, col); e != api.OK || !Same(got, parsed(t, want)) {
			t.Error(col, got, e)
		}
	}
	for _, col := range []int{4, 5, -1, math.MinInt, math.MaxInt} {
		if got, e := Without(s, col); e != api.ErrArg || !isZero(got) {
			t.Error(col, got, e)
		}
	}
	for _, col := range []int{0, 1, -1} {
		if got, e := Without(parsed(t, "x:number\n1\n"), col); e != api.ErrArg || !isZero(got) {
			t.Error(col, got, e)
		}
	}
	if got, e := Without(parsed(t, "x:number,y:number"), 0); e != api.OK || !Same(got, parsed(t, "y:number\n")) {
		t.Error(got, e)
	}
}

func TestAdd(t *testing.T) {
	head, rows, _ := strings.Cut(mixed, "\n")
	head += "\n"
	s, none := parsed(t, mixed), parsed(t, head)
	more := "7,b,0.25,?\n?,?,?,?\n"
	for _, c := range [][2]string{{rows, more}, {more, rows}, {rows, rows}, {"", rows}, {rows, ""}, {"", ""}} {
		got, e := Add(parsed(t, head+c[0]), parsed(t, head+c[1]))
		if e != api.OK || !Same(got, parsed(t, head+c[0]+c[1])) {
			t.Error(c, got, e)
		}
	}
	for _, text := range []string{
		"x:number,k:choice(a|b),y:number\n", "x:number,k:choice(a|b),y:number,z:choice(c|d|e)\n",
		"x:number,k:choice(b|a),y:number,l:choice(c|d|e)\n", "x:number,k:choice(a|b|c),y:number,l:choice(c|d|e)\n",
		"x:number,k:number,y:number,l:choice(c|d|e)\n", "y:number,k:choice(a|b),x:number,l:choice(c|d|e)\n", "x:number",
		"x:number,k:choice(a|b),y:number,l:choice(c|d|e),m:number\n",
	} {
		for _, t2 := range []Sheet{s, none} {
			u := parsed(t, text)
			got, e1 := Add(t2, u)
			other, e2 := Add(u, t2)
			if e1 != api.ErrKind || e2 != api.ErrKind || !isZero(got) || !isZero(other) {
				t.Error(text, e1, e2)
			}
		}
	}
	full := parsed(t, "x:number\n"+strings.Repeat("5\n", api.MaxRows))
	one := parsed(t, "x:number\n6\n")
	less, _ := Take(full, make([]int, api.MaxRows-1))
	if got, e := Add(less, one); e != api.OK || len(got.Rows) != api.MaxRows || got.Rows[api.MaxRows-1][0].Q.Text() != "6" {
		t.Error(len(got.Rows), e)
	}
	for _, pair := range [][2]Sheet{{full, one}, {one, full}, {full, full}} {
		if got, e := Add(pair[0], pair[1]); e != api.ErrLong || !isZero(got) {
			t.Error(len(got.Rows), e)
		}
	}
	if got, e := Add(full, parsed(t, "y:number\n1\n")); e != api.ErrKind || !isZero(got) {
		t.Error("ErrKind comes before ErrLong", e)
	}
}

func TestNumbersAndChoices(t *testing.T) {
	s := parsed(t, mixed)
	if l, e := Numbers(s, 0); e != api.OK || !frac.Same(l, []frac.Q{frac.Of(1), frac.Of(2), frac.Of(3)}) {
		t.Error(l, e)
	}
	if l, e := Choices(s, 3); e != api.OK || !slices.Equal(l, []int{2, 1, 0}) {
		t.Error(l, e)
	}
	for col, want := range map[int]api.Errno{1: api.ErrKind, 2: api.ErrLacks, 3: api.ErrKind, 4: api.ErrArg, -1: api.ErrArg, math.MinInt: api.ErrArg, math.MaxInt: api.ErrArg} {
		if l, e := Numbers(s, col); e != want || len(l) != 0 {
			t.Error(col, l, e)
		}
	}
	for col, want := range map[int]api.Errno{0: api.ErrKind, 1: api.ErrLacks, 2: api.ErrKind, 4: api.ErrArg, -1: api.ErrArg, math.MinInt: api.ErrArg, math.MaxInt: api.ErrArg} {
		if l, e := Choices(s, col); e != want || len(l) != 0 {
			t.Error(col, l, e)
		}
	}
	none := parsed(t, "x:number,k:choice(a)\n")
	l, e1 := Numbers(none, 0)
	m, e2 := Choices(none, 1)
	if e1 != api.OK || e2 != api.OK || len(l)+len(m) != 0 {
		t.Error(e1, e2)
	}
	if l, e := Numbers(none, 1); e != api.ErrKind || len(l) != 0 {
		t.Error(e)
	}
}

func TestPartsShareNoMemory(t *testing.T) {
	s := parsed(t, mixed)
	given := copied(s)
	calls := map[string]func() Sheet{
		"take":    func() Sheet { got, _ := Take(s, []int{1, 1, 0}); return got },
		"without": func() Sheet { got, _ := Without(s, 2); return got },
		"last":    func() Sheet { got, _ := Without(s, 3); return got },
		"add":     func() Sheet { got, _ := Add(s, s); return got },
		"none":    func() Sheet { got, _ := Add(Sheet{Cols: s.Cols}, s); return got },
	}
	for name, call := range calls {
		want := call()
		got := call()
		for i := range got.Rows {
			part := copied(got)
			spoil(Sheet{Rows: got.Rows[i : i+1]})
			part.Rows[i] = nil
			if !Same(got, part) {
				t.Error(name, "rows share memory", i)
			}
		}
		spoil(got)
		if !Same(s, given) {
			t.Fatal(name, "shares memory with its argument")
		}
		if !Same(call(), want) {
			t.Error(name)
		}
	}
	numbers, _ := Numbers(s, 0)
	words, _ := Choices(s, 3)
	numbers[0], words[0] = frac.Of(-1), -1
	if !Same(s, given) {
		t.Error("a column shares memory with its sheet")
	}
}

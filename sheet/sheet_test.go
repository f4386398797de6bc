package sheet

import (
	"math"
	"slices"
	"strings"
	"testing"

	"abaculus/api"
	"abaculus/frac"
)

func parsed(t *testing.T, s string) Sheet {
	t.Helper()
	got, f := Parse(s)
	if f != (api.Fault{}) {
		t.Fatalf("%.60q: %v", s, f)
	}
	return got
}

func isZero(s Sheet) bool {
	return len(s.Cols) == 0 && len(s.Rows) == 0
}

// copied returns a sheet that shares no memory with s.
func copied(s Sheet) Sheet {
	cols, rows := slices.Clone(s.Cols), slices.Clone(s.Rows)
	for i := range cols {
		cols[i].Words = slices.Clone(cols[i].Words)
	}
	for i := range rows {
		rows[i] = slices.Clone(rows[i])
	}
	return Sheet{Cols: cols, Rows: rows}
}

// spoil overwrites all memory of s.
func spoil(s Sheet) {
	for i := range s.Cols {
		words := s.Cols[i].Words[:cap(s.Cols[i].Words)]
		for k := range words {
			words[k] = "spoiled"
		}
		s.Cols[i] = Col{Name: "spoiled"}
	}
	for i := range s.Rows {
		row := s.Rows[i][:cap(s.Rows[i])]
		for k := range row {
			row[k] = Cell{Lacks: true, Word: -9}
		}
		s.Rows[i] = nil
	}
}

func numbers(names ...string) []Col {
	var cols []Col
	for _, name := range names {
		cols = append(cols, Col{Name: name, Kind: Number})
	}
	return cols
}

func choices(name string, words ...string) Col {
	return Col{Name: name, Kind: Choice, Words: words}
}

func letters(n int) []string {
	var list []string
	for i := range n {
		list = append(list, string(rune('a'+i)))
	}
	return list
}

func cell(n int64) Cell {
	return Cell{Q: frac.Of(n)}
}

// namesAndNot are names and strings that are none.
func namesAndNot() map[string]bool {
	list := map[string]bool{
		"": false, "a": true, "z": true, "A": true, "Z": true, "m9_": true, "a_": true, "a0": true, "a9": true, "aZ": true, "Az": true,
		"_": false, "_a": false, "1": false, "0a": false, "9": false, "a b": false, " a": false, "a ": false, "a-b": false, "a.b": false,
		"ä": false, "aä": false, "é": false, "a\x00": false, "\x00": false, "a\n": false, "a\r": false, "a\xff": false, "?": false, "a?": false, "名": false,
		strings.Repeat("x", api.MaxName):            true,
		strings.Repeat("x", api.MaxName+1):          false,
		strings.Repeat("ä", api.MaxName/2):          false,
		"x" + strings.Repeat("_", api.MaxName-1):    true,
		"x" + strings.Repeat("9", api.MaxName):      false,
		strings.Repeat("x", api.MaxName-1) + "-":    false,
		strings.Repeat("x", api.MaxName-1) + "\xe9": false,
	}
	for b := range 256 {
		isLetter := 'a' <= b && b <= 'z' || 'A' <= b && b <= 'Z'
		isMore := isLetter || '0' <= b && b <= '9' || b == '_'
		list[string([]byte{byte(b)})] = isLetter
		list[string([]byte{'q', byte(b)})] = isMore
		list[string([]byte{'q', byte(b), 'q'})] = isMore
	}
	return list
}

// 6.1

func TestNames(t *testing.T) {
	for s, ok := range namesAndNot() {
		want := api.ErrName
		if ok {
			want = api.OK
		}
		if e := Check(Sheet{Cols: numbers(s)}); e != want {
			t.Errorf("column %q: %v", s, e)
		}
		if s == "b" {
			continue
		}
		if e := Check(Sheet{Cols: []Col{choices("k", "b", s)}}); e != want {
			t.Errorf("word %q: %v", s, e)
		}
		if e := Check(Sheet{Cols: []Col{choices("k", s, "b")}}); e != want {
			t.Errorf("word %q: %v", s, e)
		}
	}
}

func TestCheckOfColumns(t *testing.T) {
	x := Col{Name: "x", Kind: Number}
	for i, c := range []struct {
		cols []Col
		want api.Errno
	}{
		{nil, api.ErrShape},
		{[]Col{}, api.ErrShape},
		{numbers(letters(api.MaxCols)...), api.OK},
		{numbers(letters(api.MaxCols + 1)...), api.ErrShape},
		{[]Col{x}, api.OK},
		{[]Col{choices("x", letters(api.MaxWords)...)}, api.OK},
		{[]Col{choices("x", letters(api.MaxWords+1)...)}, api.ErrKind},
		{[]Col{choices("x", "a")}, api.OK},
		{[]Col{choices("x", "x")}, api.OK}, // a word may be the name of a column
		{[]Col{choices("x", "y"), choices("y", "y", "x")}, api.OK},
		{[]Col{choices("x")}, api.ErrKind},
		{[]Col{choices("x", "a", "A")}, api.OK},
		{numbers("x", "X"), api.OK},
		{[]Col{{Name: "x", Kind: Number, Words: []string{"a"}}}, api.ErrKind},
		{[]Col{{Name: "x", Kind: Number, Words: []string{}}}, api.OK},
		{[]Col{{Name: "x"}}, api.ErrKind},
		{[]Col{{Name: "x", Kind: 3}}, api.ErrKind},
		{[]Col{{Name: "x", Kind: 3, Words: []string{"a"}}}, api.ErrKind},
		{[]Col{{Name: "x", Kind: -1}}, api.ErrKind},
		{[]Col{{Name: "x", Kind: math.MinInt, Words: []string{"a"}}}, api.ErrKind},
		{numbers("x", "y", "x"), api.ErrIs},
		{[]Col{x, choices("x", "a")}, api.ErrIs},
		{[]Col{choices("x", "a", "b", "c", "b")}, api.ErrIs},
		{[]Col{choices("x", "a", "a")}, api.ErrIs},
		// in one column: ErrName, ErrKind, ErrIs
		{[]Col{{}}, api.ErrName},
		{[]Col{{Name: "x", Kind: Number, Words: []string{"?"}}}, api.ErrName},
		{[]Col{{Name: "x", Kind: 7, Words: []string{"a", "a", ""}}}, api.ErrName},
		{[]Col{{Name: "-", Kind: Choice}}, api.ErrName},
		{[]Col{choices("x", append(letters(api.MaxWords+1), "")...)}, api.ErrName},
		{[]Col{choices("x", append(letters(api.MaxWords), "a")...)}, api.ErrKind},
		{[]Col{x, {Name: "x", Kind: 9}}, api.ErrKind},
		{[]Col{x, choices("x")}, api.ErrKind},
		{[]Col{x, {Name: "x", Kind: Number, Words: []string{"a"}}}, api.ErrKind},
		// column by column
		{[]Col{x, x, {}}, api.ErrIs},
		{[]Col{x, {}, x}, api.ErrName},
		{[]Col{{Name: "y"}, {}}, api.ErrKind},
		{[]Col{choices("y", "a", "a"), {}}, api.ErrIs},
		// the number of columns before all
		{append(numbers(letters(api.MaxCols)...), Col{}), api.ErrShape},
		{make([]Col, api.MaxCols+1), api.ErrShape},
		{make([]Col, api.MaxCols), api.ErrName},
	} {
		if e := Check(Sheet{Cols: c.cols}); e != c.want {
			t.Error(i, c.cols, e)
		}
		// what is wrong with the columns comes before what is wrong with the rows
		for _, rows := range [][][]Cell{{{}}, make([][]Cell, api.MaxRows+1)} {
			if e := Check(Sheet{Cols: c.cols, Rows: rows}); c.want != api.OK && e != c.want {
				t.Error(i, c.cols, len(rows), e)
			}
		}
	}
}

func TestCheckOfRows(t *testing.T) {
	cols := append(numbers("x"), choices("k", "a", "b"))
	good, wrong := []Cell{cell(-3), {Word: 1}}, []Cell{cell(1), {Word: 2}}
	full := make([][]Cell, api.MaxRows)
	for i := range full {
		full[i] = good
	}
	for i, c := range []struct {
		rows [][]Cell
		want api.Errno
	}{
		{nil, api.OK},
		{[][]Cell{}, api.OK},
		{[][]Cell{good}, api.OK},
		{[][]Cell{{{Lacks: true}, {Lacks: true}}, good, {{}, {}}}, api.OK},
		{full, api.OK},
		{append(slices.Clone(full), good), api.ErrLong},
		{append(slices.Clone(full), nil), api.ErrLong},
		{make([][]Cell, api.MaxRows+1), api.ErrLong},
		{make([][]Cell, api.MaxRows), api.ErrShape},
		{[][]Cell{nil}, api.ErrShape},
		{[][]Cell{good, good[:1]}, api.ErrShape},
		{[][]Cell{good, append(slices.Clone(good), Cell{})}, api.ErrShape},
		{[][]Cell{wrong}, api.ErrArg},
		{[][]Cell{good, {cell(1), cell(1)}}, api.ErrArg},
		{[][]Cell{good, {{Word: 1}, {}}}, api.ErrArg},
		{[][]Cell{good, {{Lacks: true, Word: 1}, {}}}, api.ErrArg},
		// row by row, and in one row ErrShape, ErrArg
		{[][]Cell{good, wrong, nil}, api.ErrArg},
		{[][]Cell{good, nil, wrong}, api.ErrShape},
		{[][]Cell{wrong[1:]}, api.ErrShape},
		{[][]Cell{append(slices.Clone(wrong), Cell{})}, api.ErrShape},
	} {
		if e := Check(Sheet{Cols: cols, Rows: c.rows}); e != c.want {
			t.Error(i, e)
		}
	}
}

func TestRight(t *testing.T) {
	x, k, one := Col{Name: "x", Kind: Number}, choices("k", "a", "b"), choices("k", "a")
	tiny, _ := frac.Over(-1, math.MaxInt64)
	for i, c := range []struct {
		col  Col
		cell Cell
		want bool
	}{
		{x, Cell{}, true}, {x, cell(1), true}, {x, Cell{Q: tiny}, true}, {x, Cell{Lacks: true}, true},
		{x, Cell{Word: 1}, false}, {x, Cell{Word: -1}, false}, {x, Cell{Q: tiny, Word: 1}, false},
		{x, Cell{Lacks: true, Q: tiny}, false}, {x, Cell{Lacks: true, Word: 1}, false}, {x, Cell{Lacks: true, Word: -1}, false},
		{k, Cell{}, true}, {k, Cell{Word: 1}, true}, {k, Cell{Lacks: true}, true},
		{k, Cell{Word: 2}, false}, {k, Cell{Word: -1}, false}, {k, Cell{Word: math.MinInt}, false}, {k, Cell{Word: math.MaxInt}, false},
		{k, cell(1), false}, {k, Cell{Q: tiny, Word: 1}, false},
		{k, Cell{Lacks: true, Word: 1}, false}, {k, Cell{Lacks: true, Q: tiny}, false},
		{one, Cell{}, true}, {one, Cell{Word: 1}, false},
	} {
		if Right(c.col, c.cell) != c.want {
			t.Error(i, c.col, c.cell)
		}
	}
}

// 6.3

func TestColumn(t *testing.T) {
	s := parsed(t, "x:number,X:number,k:choice(a|x9),x9:choice(a)\n")
	for name, want := range map[string]int{"x": 0, "X": 1, "k": 2, "x9": 3} {
		if i, ok := Column(s, name); !ok || i != want {
			t.Error(name, i, ok)
		}
	}
	for _, name := range []string{"", "a", "K", "x ", "x:number", "x99"} {
		if i, ok := Column(s, name); ok || i != 0 {
			t.Error(name, i, ok)
		}
	}
	if i, ok := Column(Sheet{}, ""); ok || i != 0 {
		t.Error(i, ok)
	}
}

func TestSame(t *testing.T) {
	base := Sheet{
		Cols: append(numbers("x", "y"), choices("k", "a", "b")),
		Rows: [][]Cell{{cell(1), cell(0), {Word: 1}}, {{Lacks: true}, cell(2), {Lacks: true}}},
	}
	if !Same(base, base) || !Same(base, copied(base)) || !Same(Sheet{}, Sheet{}) {
		t.Error("a sheet differs from itself")
	}
	if !Same(Sheet{}, Sheet{Cols: []Col{}, Rows: [][]Cell{}}) || !Same(Sheet{Rows: [][]Cell{nil}}, Sheet{Rows: [][]Cell{{}}}) {
		t.Error("nil and empty differ")
	}
	if !Same(Sheet{Cols: numbers("x")}, Sheet{Cols: []Col{{Name: "x", Kind: Number, Words: []string{}}}}) {
		t.Error("nil and empty Words differ")
	}
	for i, change := range []func(s *Sheet){
		func(s *Sheet) { s.Cols[0].Name = "X" },
		func(s *Sheet) { s.Cols[0].Kind = Choice },
		func(s *Sheet) { s.Cols[1].Words = []string{"a"} },
		func(s *Sheet) { s.Cols[2].Words[1] = "c" },
		func(s *Sheet) { s.Cols[2].Words = s.Cols[2].Words[:1] },
		func(s *Sheet) { slices.Reverse(s.Cols[2].Words) },
		func(s *Sheet) { s.Cols[0], s.Cols[1] = s.Cols[1], s.Cols[0] },
		func(s *Sheet) { s.Cols = s.Cols[:2] },
		func(s *Sheet) { s.Cols = append(s.Cols, Col{}) },
		func(s *Sheet) { s.Rows = s.Rows[:1] },
		func(s *Sheet) { s.Rows = append(s.Rows, s.Rows[0]) },
		func(s *Sheet) { slices.Reverse(s.Rows) },
		func(s *Sheet) { s.Rows[0] = s.Rows[0][:2] },
		func(s *Sheet) { s.Rows[1] = append(s.Rows[1], Cell{}) },
		func(s *Sheet) { s.Rows[0][0] = cell(2) },
		func(s *Sheet) { s.Rows[0][1] = Cell{Lacks: true} },
		func(s *Sheet) { s.Rows[0][2].Word = 0 },
		func(s *Sheet) { s.Rows[1][2] = Cell{} },
		func(s *Sheet) { s.Rows[1][0].Q = frac.Of(3) },
	} {
		other := copied(base)
		change(&other)
		if Same(base, other) || Same(other, base) {
			t.Error(i, "is the same")
		}
	}
}

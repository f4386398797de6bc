package score

import (
	"math"
	"math/big"
	"math/rand"
	"slices"
	"strings"
	"testing"

	"abaculus/api"
	"abaculus/frac"
)

// The tests hold the metrics against a second reading of chapter 9 by
// math/big, on random lists of all short lengths and some long ones, and on
// the cases that the chapter names. This file has those for 9.1, and what all
// tests use.

func mustParse(t *testing.T, s string) frac.Q {
	t.Helper()
	a, ok := frac.Parse(s)
	if !ok {
		t.Fatalf("Parse(%q) is false", s)
	}
	return a
}

// list is the numbers that stand in s with spaces between them.
func list(t *testing.T, s string) []frac.Q {
	t.Helper()
	var l []frac.Q
	for _, x := range strings.Fields(s) {
		l = append(l, mustParse(t, x))
	}
	return l
}

func toBig(a frac.Q) *big.Rat {
	r, _ := new(big.Rat).SetString(a.Text())
	return r
}

func bigRatio(n, d int) *big.Rat {
	if d == 0 {
		return new(big.Rat)
	}
	return big.NewRat(int64(n), int64(d))
}

// expect checks the number and the error of a call that has no error.
func expect(t *testing.T, what string, got frac.Q, e api.Errno, want *big.Rat) {
	t.Helper()
	if e != api.OK || toBig(got).Cmp(want) != 0 {
		t.Fatalf("%s: got %s and %v, want %s", what, got.Text(), e, want)
	}
}

// expectText is expect for a wanted number as text.
func expectText(t *testing.T, what string, got frac.Q, e api.Errno, want string) {
	t.Helper()
	expect(t, what, got, e, toBig(mustParse(t, want)))
}

// expectError checks that a call that has an error gives 0.
func expectError(t *testing.T, what string, got frac.Q, e, want api.Errno) {
	t.Helper()
	if e != want || got.Sign() != 0 {
		t.Fatalf("%s: got %s and %v, want %v", what, got.Text(), e, want)
	}
}

// lengths are how long the random lists are.
func lengths() []int {
	var l []int
	for n := 1; n <= 40; n++ {
		l = append(l, n)
	}
	return append(l, 99, api.MaxRows, api.MaxRows+1, 1000)
}

func randomClasses(r *rand.Rand, n, classes int) []int {
	l := make([]int, n)
	for i := range l {
		l[i] = r.Intn(classes)
	}
	return l
}

// randomNumbers are of both signs; with small parts, many of them are equal.
func randomNumbers(r *rand.Rand, n int, part int64) []frac.Q {
	l := make([]frac.Q, n)
	for i := range l {
		l[i], _ = frac.Over(r.Int63n(2*part+1)-part, 1+r.Int63n(part))
	}
	return l
}

func copyRows[T any](rows [][]T) [][]T {
	list := slices.Clone(rows)
	for i := range list {
		list[i] = slices.Clone(list[i])
	}
	return list
}

func equalRows(a, b [][]int) bool {
	return slices.EqualFunc(a, b, slices.Equal[[]int])
}

// 9.1

// badLengths are pairs of lengths with which no function can do anything.
func badLengths() [][2]int {
	return [][2]int{{0, 0}, {0, 1}, {1, 0}, {1, 2}, {2, 1}, {5, 4}, {api.MaxRows, 1}, {1, api.MaxRows}}
}

func TestListsOfWrongLengths(t *testing.T) {
	for _, x := range badLengths() {
		// ErrShape comes first: classes, labels, at and is are wrong too.
		classes := func(n int) []int { return slices.Repeat([]int{-1}, n) }
		numbers := func(n int) []frac.Q { return slices.Repeat([]frac.Q{frac.Of(3)}, n) }
		want, got := numbers(x[0]), numbers(x[1])
		is, rows := make([]bool, x[0]), make([][]frac.Q, x[1])
		right, e := Right(classes(x[0]), classes(x[1]))
		expectError(t, "Right", right, e, api.ErrShape)
		for _, n := range []int{2, 0, -1, api.MaxClasses + 1} {
			if table, e := Table(classes(x[0]), classes(x[1]), n); e != api.ErrShape || len(table) != 0 {
				t.Fatal("Table", x, table, e)
			}
		}
		squares, e := Squares(want, got)
		expectError(t, "Squares", squares, e, api.ErrShape)
		sizes, e := Sizes(want, got)
		expectError(t, "Sizes", sizes, e, api.ErrShape)
		told, e := Told(want, got)
		expectError(t, "Told", told, e, api.ErrShape)
		for _, at := range []string{"1/2", "7", "-1"} {
			tilt, e := Tilt(want, got, mustParse(t, at))
			expectError(t, "Tilt", tilt, e, api.ErrShape)
		}
		brier, e := Brier(classes(x[0]), rows)
		expectError(t, "Brier", brier, e, api.ErrShape)
		if curve, e := Curve(is, got); e != api.ErrShape || len(curve) != 0 {
			t.Fatal("Curve", x, curve, e)
		}
		area, e := Area(is, got)
		expectError(t, "Area", area, e, api.ErrShape)
	}
}

func TestRight(t *testing.T) {
	for _, x := range []struct {
		want, got []int
		right     string
	}{
		{[]int{0, 1, 1}, []int{0, 1, 0}, "2/3"},
		{[]int{0}, []int{0}, "1"},
		{[]int{0}, []int{1}, "0"},
		{[]int{0, 1}, []int{1, 0}, "0"},
		{[]int{3, 1, 2, 0}, []int{3, 1, 2, 0}, "1"},
		{[]int{1, 1, 1, 1}, []int{1, 0, 1, 2}, "1/2"},
		// Right asks for no classes.
		{[]int{-1, math.MinInt, math.MaxInt}, []int{-1, math.MaxInt, math.MaxInt}, "2/3"},
	} {
		got, e := Right(x.want, x.got)
		expectText(t, "Right", got, e, x.right)
	}
}

func TestRightOfAnyLists(t *testing.T) {
	r := rand.New(rand.NewSource(1))
	for _, n := range lengths() {
		want, got := randomClasses(r, n, 3), randomClasses(r, n, 3)
		equal := 0
		for i := range n {
			if want[i] == got[i] {
				equal++
			}
		}
		right, e := Right(want, got)
		expect(t, "Right", right, e, bigRatio(equal, n))
	}
}

func TestTable(t *testing.T) {
	for _, x := range []struct {
		want, got []int
		classes   int
		table     [][]int
	}{
		{[]int{0, 1, 1, 0}, []int{0, 1, 0, 0}, 2, [][]int{{2, 0}, {1, 1}}},
		{[]int{0, 0, 0}, []int{1, 1, 0}, 2, [][]int{{1, 2}, {0, 0}}},
		{[]int{0}, []int{0}, 1, [][]int{{1}}},
		{[]int{2}, []int{1}, 3, [][]int{{0, 0, 0}, {0, 0, 0}, {0, 1, 0}}},
	} {
		if got, e := Table(x.want, x.got, x.classes); e != api.OK || !equalRows(got, x.table) {
			t.Error(x, got, e)
		}
	}
}

func TestTableOfAnyLists(t *testing.T) {
	r := rand.New(rand.NewSource(2))
	for _, n := range lengths() {
		classes := 1 + n%api.MaxClasses
		want, got := randomClasses(r, n, classes), randomClasses(r, n, classes)
		table, e := Table(want, got, classes)
		if e != api.OK || len(table) != classes {
			t.Fatal(n, table, e)
		}
		for w := range classes {
			if len(table[w]) != classes {
				t.Fatal(n, table)
			}
			for g := range classes {
				times := 0
				for i := range n {
					if want[i] == w && got[i] == g {
						times++
					}
				}
				if table[w][g] != times {
					t.Fatal(n, w, g, table)
				}
			}
		}
		was := copyRows(table)
		for w, row := range table {
			_ = append(row, -1)
			row[0] = -1
			was[w][0] = -1
			if !equalRows(table, was) {
				t.Fatal("the rows share memory")
			}
		}
	}
}

func TestTableOfWrongArguments(t *testing.T) {
	for _, x := range []struct {
		want, got []int
		classes   int
		e         api.Errno
	}{
		{[]int{0}, []int{0}, 0, api.ErrArg},
		{[]int{0}, []int{0}, -1, api.ErrArg},
		{[]int{0}, []int{0}, math.MinInt, api.ErrArg},
		{[]int{0}, []int{0}, math.MaxInt, api.ErrArg},
		{[]int{0}, []int{0}, api.MaxClasses + 1, api.ErrArg},
		{[]int{0}, []int{0}, api.MaxClasses, api.OK},
		{[]int{api.MaxClasses - 1}, []int{api.MaxClasses - 1}, api.MaxClasses, api.OK},
		{[]int{api.MaxClasses}, []int{0}, api.MaxClasses, api.ErrArg},
		{[]int{0, 2}, []int{0, 0}, 2, api.ErrArg},
		{[]int{0, 0}, []int{0, 2}, 2, api.ErrArg},
		{[]int{2, 0}, []int{0, 0}, 2, api.ErrArg},
		{[]int{0, 0}, []int{2, 0}, 2, api.ErrArg},
		{[]int{-1}, []int{0}, 2, api.ErrArg},
		{[]int{0}, []int{-1}, 2, api.ErrArg},
		{[]int{1}, []int{0}, 1, api.ErrArg},
		{[]int{math.MaxInt}, []int{math.MinInt}, 2, api.ErrArg},
	} {
		if got, e := Table(x.want, x.got, x.classes); e != x.e || e != api.OK && len(got) != 0 {
			t.Error(x, got, e)
		}
	}
}

// bigRates is the Rate of a class as 9.1 says it.
func bigRates(t [][]int, class int) (precise, recall, both *big.Rat) {
	row, column := 0, 0
	for i := range t {
		row += t[class][i]
		column += t[i][class]
	}
	precise, recall = bigRatio(t[class][class], column), bigRatio(t[class][class], row)
	sum := new(big.Rat).Add(precise, recall)
	if sum.Sign() == 0 {
		return precise, recall, sum
	}
	both = new(big.Rat).Mul(precise, recall)
	both.Add(both, both)
	return precise, recall, both.Quo(both, sum)
}

func expectRates(t *testing.T, table [][]int) {
	t.Helper()
	was := copyRows(table)
	rates, e := Rates(table)
	if e != api.OK || len(rates) != len(table) {
		t.Fatal(table, rates, e)
	}
	for class, rate := range rates {
		precise, recall, both := bigRates(table, class)
		expect(t, "Precise", rate.Precise, e, precise)
		expect(t, "Recall", rate.Recall, e, recall)
		expect(t, "Both", rate.Both, e, both)
	}
	if !equalRows(table, was) {
		t.Fatal("Rates changes the table")
	}
}

func TestRates(t *testing.T) {
	for _, x := range []struct {
		table [][]int
		rates string
	}{
		{[][]int{{2, 0}, {1, 1}}, "2/3 1 4/5 1 1/2 2/3"},
		{[][]int{{0, 0}, {3, 0}}, "0 0 0 0 0 0"},
		{[][]int{{0, 1}, {1, 0}}, "0 0 0 0 0 0"},
		{[][]int{{0, 0}, {0, 0}}, "0 0 0 0 0 0"},
		{[][]int{{0, 0}, {0, 5}}, "0 0 0 1 1 1"},
		{[][]int{{4, 2}, {0, 0}}, "1 2/3 4/5 0 0 0"},
		{[][]int{{0}}, "0 0 0"},
		{[][]int{{7}}, "1 1 1"},
		{[][]int{{math.MaxInt32}}, "1 1 1"},
	} {
		rates, e := Rates(x.table)
		var l []frac.Q
		for _, rate := range rates {
			l = append(l, rate.Precise, rate.Recall, rate.Both)
		}
		if e != api.OK || !frac.Same(l, list(t, x.rates)) {
			t.Error(x, rates, e)
		}
		expectRates(t, x.table)
	}
}

func TestRatesOfAnyTables(t *testing.T) {
	r := rand.New(rand.NewSource(3))
	for i := range 400 {
		n := 1 + r.Intn(5)
		if i%40 == 0 {
			n = api.MaxClasses + r.Intn(8)
		}
		most := []int{1, 2, 4, 100, math.MaxInt32 / (n * n)}[i%5]
		table := make([][]int, n)
		for w := range table {
			table[w] = randomClasses(r, n, most+1)
		}
		expectRates(t, table)
	}
}

func TestRatesOfGreatTables(t *testing.T) {
	expectRates(t, [][]int{{math.MaxInt32 - 1, 1}, {0, 0}})
	expectRates(t, [][]int{{0, math.MaxInt32}, {0, 0}})
	expectRates(t, [][]int{{1, 1}, {math.MaxInt32 - 3, 1}})
}

func TestRatesOfWrongTables(t *testing.T) {
	for _, x := range []struct {
		table [][]int
		e     api.Errno
	}{
		{nil, api.ErrShape},
		{[][]int{}, api.ErrShape},
		{[][]int{{}}, api.ErrShape},
		{[][]int{nil, nil}, api.ErrShape},
		{[][]int{{1, 2}}, api.ErrShape},
		{[][]int{{1}, {2}}, api.ErrShape},
		{[][]int{{1, 2}, {3}}, api.ErrShape},
		{[][]int{{1}, {2, 3}}, api.ErrShape},
		{[][]int{{1, 2}, {3, 4, 5}}, api.ErrShape},
		// ErrShape comes first.
		{[][]int{{-1, 2}, {3}}, api.ErrShape},
		{[][]int{{-1, math.MaxInt}}, api.ErrShape},
		{[][]int{{-1}}, api.ErrArg},
		{[][]int{{math.MinInt}}, api.ErrArg},
		{[][]int{{1, 2}, {3, -1}}, api.ErrArg},
		{[][]int{{5, -1}, {0, 0}}, api.ErrArg},
		{[][]int{{1 << 31}}, api.ErrArg},
		{[][]int{{math.MaxInt}}, api.ErrArg},
		{[][]int{{1<<31 - 1, 1}, {0, 0}}, api.ErrArg},
		{[][]int{{1, 0}, {0, 1<<31 - 1}}, api.ErrArg},
		{[][]int{{1 << 30, 1 << 30}, {0, 0}}, api.ErrArg},
		// the sums wrap round to numbers that would do
		{[][]int{{math.MaxInt, math.MaxInt}, {2, 0}}, api.ErrArg},
		{[][]int{{1 << 62, 1 << 62}, {1 << 62, 1 << 62}}, api.ErrArg},
		{[][]int{{math.MaxInt, 1}, {math.MinInt, 0}}, api.ErrArg},
	} {
		if got, e := Rates(x.table); e != x.e || len(got) != 0 {
			t.Error(x, got, e)
		}
	}
}

// 9.1 and rule 2: the Rates of a Table, and the lists stay as they are.
func TestRatesOfATable(t *testing.T) {
	r := rand.New(rand.NewSource(4))
	for _, n := range lengths() {
		want, got := randomClasses(r, n, 4), randomClasses(r, n, 4)
		wantWas, gotWas := slices.Clone(want), slices.Clone(got)
		right, e := Right(want, got)
		table, _ := Table(want, got, 4)
		if !slices.Equal(want, wantWas) || !slices.Equal(got, gotWas) {
			t.Fatal("a list was changed")
		}
		expectRates(t, table)
		diagonal := 0
		for class := range table {
			diagonal += table[class][class]
		}
		expect(t, "Right", right, e, bigRatio(diagonal, n))
	}
}

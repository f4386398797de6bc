package score

import (
	"math"
	"math/big"
	"math/rand"
	"slices"
	"testing"

	"abaculus/api"
	"abaculus/frac"
)

// bigMean is the mean of what loss says of each difference want - got.
func bigMean(want, got []frac.Q, loss func(d *big.Rat) *big.Rat) *big.Rat {
	sum := new(big.Rat)
	for i := range want {
		d := toBig(want[i])
		sum.Add(sum, loss(d.Sub(d, toBig(got[i]))))
	}
	return sum.Quo(sum, bigRatio(len(want), 1))
}

func bigSquare(d *big.Rat) *big.Rat { return new(big.Rat).Mul(d, d) }

func bigSize(d *big.Rat) *big.Rat { return new(big.Rat).Abs(d) }

func bigTilt(at *big.Rat) func(d *big.Rat) *big.Rat {
	return func(d *big.Rat) *big.Rat {
		if d.Sign() >= 0 {
			return new(big.Rat).Mul(at, d)
		}
		less := new(big.Rat).Sub(at, big.NewRat(1, 1))
		return less.Mul(less, d)
	}
}

// bigSpread is the mean squared deviation of the numbers from their mean.
func bigSpread(l []frac.Q) *big.Rat {
	zeros := make([]frac.Q, len(l))
	middle := bigMean(l, zeros, func(d *big.Rat) *big.Rat { return d })
	return bigMean(l, zeros, func(d *big.Rat) *big.Rat { return bigSquare(d.Sub(d, middle)) })
}

// everyPair are lists of the same length to try the functions on: random
// numbers, most of them different or many of them equal, and equal lists.
func everyPair(visit func(want, got []frac.Q)) {
	r := rand.New(rand.NewSource(5))
	for i, n := range lengths() {
		part := []int64{1, 2, 9, 60}[i%4]
		want, got := randomNumbers(r, n, part), randomNumbers(r, n, part)
		visit(want, got)
		visit(want, slices.Clone(want))
		visit(slices.Repeat(want[:1], n), got)
	}
	// long numbers, and such as have a small difference
	want, got := randomNumbers(r, 12, math.MaxInt64/2), randomNumbers(r, 12, math.MaxInt64/2)
	visit(want, got)
	visit(want, append(slices.Clone(want[:11]), want[11].Add(got[0].Mul(got[0]))))
}

// 9.2

func TestValues(t *testing.T) {
	want, got := list(t, "1 2 4"), list(t, "1 0 1")
	squares, e := Squares(want, got)
	expectText(t, "Squares", squares, e, "13/3")
	sizes, e := Sizes(want, got)
	expectText(t, "Sizes", sizes, e, "5/3")
	told, e := Told(want, got)
	expectText(t, "Told", told, e, "-25/14")
	told, e = Told(want, want)
	expectText(t, "Told of itself", told, e, "1")
	told, e = Told(want, list(t, "7/3 7/3 7/3"))
	expectText(t, "Told of the mean", told, e, "0")
}

func TestValuesOfAnyLists(t *testing.T) {
	everyPair(func(want, got []frac.Q) {
		wantWas, gotWas := slices.Clone(want), slices.Clone(got)
		squares, e := Squares(want, got)
		bigSquares := bigMean(want, got, bigSquare)
		expect(t, "Squares", squares, e, bigSquares)
		sizes, e := Sizes(want, got)
		expect(t, "Sizes", sizes, e, bigMean(want, got, bigSize))
		told, e := Told(want, got)
		if spread := bigSpread(want); spread.Sign() == 0 {
			expectError(t, "Told", told, e, api.ErrZero)
		} else {
			untold := new(big.Rat).Quo(bigSquares, spread)
			expect(t, "Told", told, e, untold.Sub(big.NewRat(1, 1), untold))
		}
		if !frac.Same(want, wantWas) || !frac.Same(got, gotWas) {
			t.Fatal("a list was changed")
		}
	})
}

func TestToldOfEqualNumbers(t *testing.T) {
	for _, x := range [][2]string{
		{"2 2", "1 3"}, {"2 2", "2 2"}, {"0", "0"}, {"0", "5"}, {"-1/3 -1/3 -1/3", "0 0 0"}, {"1/2 2/4 0.5 0.50", "1 2 3 4"},
	} {
		told, e := Told(list(t, x[0]), list(t, x[1]))
		expectError(t, x[0], told, e, api.ErrZero)
	}
	// numbers that are almost equal still are different
	told, e := Told(list(t, "1 1.0000000000000000000000000000000000000000002"), list(t, "1 1"))
	expectText(t, "Told", told, e, "-1")
}

func TestTilt(t *testing.T) {
	for _, x := range []struct{ want, got, at, tilt string }{
		{"1 2 4", "1 0 5", "1/4", "5/12"},
		{"3", "1", "1/4", "1/2"},
		{"1", "3", "1/4", "3/2"},
		{"3", "1", "0", "0"},
		{"1", "3", "0", "2"},
		{"3", "1", "1", "2"},
		{"1", "3", "1", "0"},
		{"1 3", "3 1", "0.5", "1"},
		{"2 2", "2 2", "1/7", "0"},
	} {
		tilt, e := Tilt(list(t, x.want), list(t, x.got), mustParse(t, x.at))
		expectText(t, "Tilt", tilt, e, x.tilt)
	}
}

func TestTiltOfAnyLists(t *testing.T) {
	everyPair(func(want, got []frac.Q) {
		wantWas, gotWas := slices.Clone(want), slices.Clone(got)
		for _, at := range list(t, "0 1 1/2 1/3 0.9 1/100000000000000000000000000000") {
			tilt, e := Tilt(want, got, at)
			expect(t, "Tilt", tilt, e, bigMean(want, got, bigTilt(toBig(at))))
		}
		half, _ := frac.Over(1, 2)
		tilt, _ := Tilt(want, got, half)
		sizes, _ := Sizes(want, got)
		if tilt.Add(tilt).Cmp(sizes) != 0 {
			t.Fatal("Tilt at 1/2 is not half of Sizes")
		}
		if !frac.Same(want, wantWas) || !frac.Same(got, gotWas) {
			t.Fatal("a list was changed")
		}
	})
}

func TestTiltOfWrongNumbers(t *testing.T) {
	l := list(t, "1 2")
	for _, at := range []string{"-1", "-1/9", "-0.00000000000000000000000000000000001", "2", "10/9", "1.00000000000000000000000000000000001", "-7", "1000000000000000000000000000000"} {
		tilt, e := Tilt(l, l, mustParse(t, at))
		expectError(t, at, tilt, e, api.ErrArg)
		tilt, e = Tilt(l, list(t, "0 5"), mustParse(t, at))
		expectError(t, at, tilt, e, api.ErrArg)
	}
}

// bigBrier is what 9.2 says of the Brier score.
func bigBrier(want []int, p [][]frac.Q) *big.Rat {
	sum := new(big.Rat)
	for i, row := range p {
		for class, q := range row {
			d := toBig(q)
			if class == want[i] {
				d.Sub(d, big.NewRat(1, 1))
			}
			sum.Add(sum, bigSquare(d))
		}
	}
	return sum.Quo(sum, bigRatio(len(p), 1))
}

func TestBrier(t *testing.T) {
	for _, x := range []struct {
		want  []int
		p     [][]frac.Q
		brier string
	}{
		{[]int{0, 1}, [][]frac.Q{list(t, "1/2 1/2"), list(t, "1/4 3/4")}, "5/16"},
		{[]int{1}, [][]frac.Q{list(t, "0 1 0")}, "0"},
		{[]int{0}, [][]frac.Q{list(t, "0 1 0")}, "2"},
		{[]int{0}, [][]frac.Q{list(t, "1/3")}, "4/9"},
		// the numbers of a row need not be probabilities
		{[]int{0, 1}, [][]frac.Q{list(t, "-1 2"), list(t, "5 7")}, "69/2"},
	} {
		brier, e := Brier(x.want, x.p)
		expectText(t, "Brier", brier, e, x.brier)
	}
}

func TestBrierOfAnyLists(t *testing.T) {
	r := rand.New(rand.NewSource(6))
	for _, n := range lengths() {
		classes := 1 + n%api.MaxClasses
		want := randomClasses(r, n, classes)
		p := make([][]frac.Q, n)
		for i := range p {
			p[i] = randomNumbers(r, classes, 12)
		}
		wantWas, was := slices.Clone(want), copyRows(p)
		brier, e := Brier(want, p)
		expect(t, "Brier", brier, e, bigBrier(want, p))
		if !slices.Equal(want, wantWas) || !slices.EqualFunc(p, was, frac.Same) {
			t.Fatal("a list was changed")
		}
	}
}

// More numbers in a row than there may be classes are no error.
func TestBrierOfLongRows(t *testing.T) {
	row := make([]frac.Q, 3*api.MaxClasses)
	brier, e := Brier([]int{len(row) - 1}, [][]frac.Q{row})
	expectText(t, "Brier", brier, e, "1")
	brier, e = Brier([]int{len(row)}, [][]frac.Q{row})
	expectError(t, "Brier", brier, e, api.ErrArg)
}

func TestBrierOfWrongArguments(t *testing.T) {
	one, two := list(t, "1"), list(t, "1 2")
	for i, x := range []struct {
		want []int
		p    [][]frac.Q
		e    api.Errno
	}{
		{[]int{0, 0}, [][]frac.Q{one, two}, api.ErrShape},
		{[]int{0, 0}, [][]frac.Q{two, one}, api.ErrShape},
		{[]int{0, 0, 0}, [][]frac.Q{two, two, one}, api.ErrShape},
		{[]int{0, 0}, [][]frac.Q{nil, one}, api.ErrShape},
		{[]int{0, 0}, [][]frac.Q{one, nil}, api.ErrShape},
		// ErrShape comes first.
		{[]int{5, 0}, [][]frac.Q{one, two}, api.ErrShape},
		{[]int{-1, 0}, [][]frac.Q{two, one}, api.ErrShape},
		{[]int{1}, [][]frac.Q{one}, api.ErrArg},
		{[]int{2}, [][]frac.Q{two}, api.ErrArg},
		{[]int{-1}, [][]frac.Q{two}, api.ErrArg},
		{[]int{0, -1}, [][]frac.Q{one, one}, api.ErrArg},
		{[]int{1, 0}, [][]frac.Q{one, one}, api.ErrArg},
		{[]int{0, 2}, [][]frac.Q{two, two}, api.ErrArg},
		{[]int{math.MaxInt}, [][]frac.Q{two}, api.ErrArg},
		{[]int{math.MinInt}, [][]frac.Q{two}, api.ErrArg},
		{[]int{0}, [][]frac.Q{nil}, api.ErrArg},
		{[]int{0, 0}, [][]frac.Q{nil, {}}, api.ErrArg},
	} {
		brier, e := Brier(x.want, x.p)
		if e != x.e || brier.Sign() != 0 {
			t.Error(i, brier.Text(), e)
		}
	}
}

// W1: equal numbers that are written differently are scored alike.
func TestValuesWrittenDifferently(t *testing.T) {
	want, got := list(t, "1/2 -3 0.25"), list(t, "0 1/3 7")
	wantToo, gotToo := list(t, "0.50 -9/3 2/8"), list(t, "-0.0 3/9 7.000")
	for i, f := range []func(a, b []frac.Q) (frac.Q, api.Errno){
		Squares, Sizes, Told,
		func(a, b []frac.Q) (frac.Q, api.Errno) { return Tilt(a, b, a[0]) },
		func(a, b []frac.Q) (frac.Q, api.Errno) { return Brier([]int{2, 0}, [][]frac.Q{a, b}) },
	} {
		x, e := f(want, got)
		y, eToo := f(wantToo, gotToo)
		if e != api.OK || eToo != api.OK || x.Text() != y.Text() {
			t.Error(i, x.Text(), y.Text(), e, eToo)
		}
	}
}

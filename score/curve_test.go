package score

import (
	"math"
	"math/big"
	"math/rand"
	"slices"
	"testing"

	"abaculus/api"
	"abaculus/frac"
)

// share is the fraction of the positions whose is is x that have at least the
// number at.
func share(is []bool, by []frac.Q, x bool, at frac.Q) *big.Rat {
	reached, all := 0, 0
	for i := range is {
		if is[i] != x {
			continue
		}
		all++
		if by[i].Cmp(at) >= 0 {
			reached++
		}
	}
	return bigRatio(reached, all)
}

// descending are the distinct numbers of l, the greatest first.
func descending(l []frac.Q) []frac.Q {
	sorted := frac.Sort(l)
	slices.Reverse(sorted)
	return slices.CompactFunc(sorted, func(a, b frac.Q) bool { return a.Cmp(b) == 0 })
}

// bigArea is what 9.3 says of the area, pair by pair.
func bigArea(is []bool, by []frac.Q) *big.Rat {
	halves, pairs := 0, 0
	for i := range is {
		for j := range is {
			if is[i] && !is[j] {
				pairs++
				halves += 1 + by[i].Cmp(by[j])
			}
		}
	}
	return bigRatio(halves, 2*pairs)
}

func expectCurve(t *testing.T, is []bool, by []frac.Q) {
	t.Helper()
	isWas, byWas := slices.Clone(is), slices.Clone(by)
	points, e := Curve(is, by)
	area, areaE := Area(is, by)
	if !slices.Equal(is, isWas) || !frac.Same(by, byWas) {
		t.Fatal("a list was changed")
	}
	if slices.Index(is, true) < 0 || slices.Index(is, false) < 0 {
		if e != api.ErrNone || len(points) != 0 {
			t.Fatal(is, points, e)
		}
		expectError(t, "Area", area, areaE, api.ErrNone)
		return
	}
	numbers := descending(by)
	if e != api.OK || len(points) != 1+len(numbers) {
		t.Fatal(is, points, e)
	}
	if points[0].False.Sign() != 0 || points[0].True.Sign() != 0 {
		t.Fatal(is, points[0])
	}
	for i, at := range numbers {
		expect(t, "False", points[1+i].False, e, share(is, by, false, at))
		expect(t, "True", points[1+i].True, e, share(is, by, true, at))
	}
	expect(t, "Area", area, areaE, bigArea(is, by))
	expect(t, "the area by the trapezoidal rule", area, areaE, trapezoids(points))
}

// trapezoids is the area under the points by the trapezoidal rule.
func trapezoids(points []Point) *big.Rat {
	area := new(big.Rat)
	for i := 1; i < len(points); i++ {
		width := toBig(points[i].False.Sub(points[i-1].False))
		height := toBig(points[i].True.Add(points[i-1].True))
		area.Add(area, width.Mul(width, height))
	}
	return area.Mul(area, big.NewRat(1, 2))
}

func randomBools(r *rand.Rand, n int) []bool {
	l := make([]bool, n)
	for i := range l {
		l[i] = r.Intn(3) == 0
	}
	return l
}

// 9.3

func TestCurve(t *testing.T) {
	for _, x := range []struct {
		is              []bool
		by, curve, area string
	}{
		{[]bool{true, false, true, false}, "4 3 3 1", "0 0 0 1/2 1/2 1 1 1", "7/8"},
		{[]bool{false, true, false, true}, "1 3 3 4", "0 0 0 1/2 1/2 1 1 1", "7/8"},
		{[]bool{false, true}, "5 -5", "0 0 1 0 1 1", "0"},
		{[]bool{false, true}, "-5 5", "0 0 0 1 1 1", "1"},
		{[]bool{false, true, true}, "1/2 2/4 0.5", "0 0 1 1", "1/2"},
		{[]bool{true, false, false, false}, "-1 -2 -1/2 -1", "0 0 1/3 0 2/3 1 1 1", "1/2"},
	} {
		points, e := Curve(x.is, list(t, x.by))
		var l []frac.Q
		for _, p := range points {
			l = append(l, p.False, p.True)
		}
		if e != api.OK || !frac.Same(l, list(t, x.curve)) {
			t.Error(x, points, e)
		}
		area, e := Area(x.is, list(t, x.by))
		expectText(t, x.by, area, e, x.area)
		expectCurve(t, x.is, list(t, x.by))
	}
}

// TestCurveOfAllShortLists goes through all lists of up to 5 positions with
// numbers from 0 to 2.
func TestCurveOfAllShortLists(t *testing.T) {
	for n := 1; n <= 5; n++ {
		for bits := range 1 << n {
			is := make([]bool, n)
			for i := range is {
				is[i] = bits>>i&1 == 1
			}
			for code := range int(math.Pow(3, float64(n))) {
				by := make([]frac.Q, n)
				for i := range by {
					by[i] = frac.Of(int64(code % 3))
					code /= 3
				}
				expectCurve(t, is, by)
			}
		}
	}
}

// 9.3, and 9.4 for the trapezoidal rule
func TestCurveOfAnyLists(t *testing.T) {
	r := rand.New(rand.NewSource(7))
	for i, n := range lengths() {
		if n > api.MaxRows {
			continue
		}
		for _, part := range []int64{1, 3, int64(n), math.MaxInt64 / 2} {
			expectCurve(t, randomBools(r, n), randomNumbers(r, n, part))
		}
		is := randomBools(r, n)
		is[i%n] = !is[i%n]
		expectCurve(t, is, make([]frac.Q, n))
	}
}

func TestCurveOfOneKind(t *testing.T) {
	for n := 1; n <= 20; n++ {
		by := randomNumbers(rand.New(rand.NewSource(8)), n, 5)
		for _, x := range []bool{true, false} {
			is := slices.Repeat([]bool{x}, n)
			if points, e := Curve(is, by); e != api.ErrNone || len(points) != 0 {
				t.Error(x, n, points, e)
			}
			area, e := Area(is, by)
			expectError(t, "Area", area, e, api.ErrNone)
		}
	}
}

// A list of this length has too many pairs to look at each of them.
func TestAreaOfLongLists(t *testing.T) {
	const n = 1 << 18
	is, by := make([]bool, n), make([]frac.Q, n)
	// One true and one false position have each number from 0 to n/2 - 1: the
	// halves of an odd number below n and of the even one before it.
	for i := range n {
		is[i] = i%2 == 1
		by[i] = frac.Of(int64(i * 77 % n / 2))
	}
	area, e := Area(is, by)
	expect(t, "Area", area, e, big.NewRat(1, 2))
	// The first position is false and had the least number: the true ones won
	// against it, and one tied, which now all lose.
	by[0] = frac.Of(n)
	area, e = Area(is, by)
	expect(t, "Area", area, e, new(big.Rat).Sub(big.NewRat(1, 2), big.NewRat(n-1, n*(n/2))))
}

// 9.4

// each is the numbers of l after change.
func each(l []frac.Q, change func(frac.Q) frac.Q) []frac.Q {
	changed := make([]frac.Q, len(l))
	for i, q := range l {
		changed[i] = change(q)
	}
	return changed
}

func TestCurveOfTransformedNumbers(t *testing.T) {
	third, tiny := mustParse(t, "1/3"), mustParse(t, "1/1000000000000000000000000000000000000000")
	r := rand.New(rand.NewSource(9))
	for n := 2; n < 60; n++ {
		is, by := randomBools(r, n), randomNumbers(r, n, 8)
		is[0], is[n-1] = true, false
		points, e := Curve(is, by)
		area, areaE := Area(is, by)
		if e != api.OK || areaE != api.OK {
			t.Fatal(e, areaE)
		}
		for i, change := range []func(frac.Q) frac.Q{
			func(q frac.Q) frac.Q { return q.Add(third) },
			func(q frac.Q) frac.Q { return q.Mul(third) },
			func(q frac.Q) frac.Q { return q.Mul(tiny) },
			func(q frac.Q) frac.Q { return q.Mul(q).Mul(q) },
			func(q frac.Q) frac.Q { // the rank
				below := slices.DeleteFunc(slices.Clone(by), func(p frac.Q) bool { return p.Cmp(q) >= 0 })
				return frac.Of(int64(len(below)))
			},
			func(q frac.Q) frac.Q { // q / (1 + |q|)
				p, _ := q.Div(q.Abs().Add(frac.Of(1)))
				return p
			},
		} {
			changed := each(by, change)
			samePoints(t, i, is, changed, points)
			if got, e := Area(is, changed); e != api.OK || got.Text() != area.Text() {
				t.Fatal(i, got.Text(), area.Text(), e)
			}
		}
	}
}

// samePoints checks that the curve consists of these points.
func samePoints(t *testing.T, what int, is []bool, by []frac.Q, points []Point) {
	t.Helper()
	got, e := Curve(is, by)
	if e != api.OK || !slices.EqualFunc(got, points, func(a, b Point) bool {
		return a.False.Cmp(b.False) == 0 && a.True.Cmp(b.True) == 0
	}) {
		t.Fatal(what, got, points, e)
	}
}

// W7: the order of the positions changes nothing.
func TestCurveOfShuffledPositions(t *testing.T) {
	r := rand.New(rand.NewSource(10))
	is, by := randomBools(r, 50), randomNumbers(r, 50, 4)
	points, _ := Curve(is, by)
	area, _ := Area(is, by)
	for i := range 30 {
		r.Shuffle(len(is), func(i, j int) {
			is[i], is[j] = is[j], is[i]
			by[i], by[j] = by[j], by[i]
		})
		samePoints(t, i, is, by, points)
		if got, e := Area(is, by); e != api.OK || got.Cmp(area) != 0 {
			t.Fatal(got.Text(), area.Text(), e)
		}
	}
}

package frac

import (
	"math"
	"math/big"
	"math/rand"
	"testing"

	"abaculus/nat"
	"abaculus/whole"
)

// The tests hold Q against math/big, on numbers of both signs whose parts are
// small, lie at the edges of a word or are longer, and on the cases that
// chapter 3 names. This file has those for 3.1, for the operations of 3.3 and
// for 3.6, and what all tests use.

func mustParse(t *testing.T, s string) Q {
	t.Helper()
	a, ok := Parse(s)
	if !ok {
		t.Fatalf("Parse(%q) is false", s)
	}
	return a
}

func parseAll(t *testing.T, texts ...string) []Q {
	t.Helper()
	var list []Q
	for _, s := range texts {
		list = append(list, mustParse(t, s))
	}
	return list
}

func bigInt(a whole.Int) *big.Int {
	n := new(big.Int).SetBytes(a.Abs().Bytes())
	if a.Sign() < 0 {
		n.Neg(n)
	}
	return n
}

func toBig(a Q) *big.Rat {
	return new(big.Rat).SetFrac(bigInt(a.Num()), bigInt(whole.From(false, a.Den())))
}

// expect checks a number and that its parts are in lowest terms.
func expect(t *testing.T, what string, got Q, want *big.Rat) {
	t.Helper()
	num, den := bigInt(got.Num()), bigInt(whole.From(false, got.Den()))
	if num.Cmp(want.Num()) != 0 || den.Cmp(want.Denom()) != 0 {
		t.Fatalf("%s: got %s, want %s", what, got.Text(), want)
	}
	expectOneForm(t, what, got)
}

// expectOneForm checks that a denominator of 1 stands as 0.
func expectOneForm(t *testing.T, what string, a Q) {
	t.Helper()
	if isOne(a.den) {
		t.Fatalf("%s: %s is not in its one form", what, a.Text())
	}
}

// isPlainZero holds for the zero value only.
func isPlainZero(a Q) bool {
	return a.num.Sign() == 0 && isZero(a.den)
}

// edgePart is a number above 0 of up to 3 words, most of them at the edges.
func edgePart(r *rand.Rand) *big.Int {
	edges := []uint64{0, 1, 2, 6, 1<<31 - 1, 1 << 31, 1<<32 - 1, 1 << 32, 1<<63 - 1, 1 << 63, 1<<64 - 2, 1<<64 - 1}
	n := new(big.Int)
	for range 1 + r.Intn(3) {
		w := edges[r.Intn(len(edges))]
		if r.Intn(3) == 0 {
			w = r.Uint64()
		}
		n.Lsh(n, 64).Or(n, new(big.Int).SetUint64(w))
	}
	return n.Add(n, big.NewInt(1))
}

// fromBig makes a number from parts that need not be in lowest terms.
func fromBig(num, den *big.Int) Q {
	a, _ := Make(whole.From(num.Sign() < 0, nat.FromBytes(num.Bytes())), whole.From(den.Sign() < 0, nat.FromBytes(den.Bytes())))
	return a
}

// numbers is integers and fractions of both signs, short and long. Many of the
// denominators have common divisors, and some are equal.
func numbers() []Q {
	r := rand.New(rand.NewSource(1))
	list := []Q{{}, Of(1), Of(-1), Of(2), Of(-7), Of(math.MaxInt64), Of(math.MinInt64)}
	for i := range int64(20) {
		a, _ := Over(r.Int63n(41)-20, 1+i%12)
		list = append(list, a)
	}
	for i := range 40 {
		num, den := edgePart(r), edgePart(r)
		switch i % 4 {
		case 0:
			den.SetInt64(1)
		case 1:
			den.Mul(big.NewInt(1<<20), big.NewInt(15))
		case 2:
			den.Mul(den, big.NewInt(30))
		}
		if i%3 == 0 {
			num.Neg(num)
		}
		list = append(list, fromBig(num, den))
	}
	return list
}

// 3.1

func TestZeroValue(t *testing.T) {
	var zero Q
	if zero.Text() != "0" || zero.Sign() != 0 || zero.Num().Sign() != 0 || zero.Den().Cmp(nat.Of(1)) != 0 {
		t.Error(zero.Text(), zero.Sign(), zero.Num().Text(), zero.Den().Text())
	}
	half := mustParse(t, "1/2")
	over, _ := Over(0, -9)
	made, _ := Make(whole.Int{}, whole.Of(1<<40))
	quotient, _ := zero.Div(half.Neg())
	for i, other := range []Q{
		Of(0), over, made, quotient, zero.Neg(), zero.Abs(), half.Sub(half), half.Add(half.Neg()), half.Mul(zero), zero.Mul(half),
		zero.Near(3), half.Near(0), half.Neg().Near(0), Sum(nil), mustParse(t, "0"), mustParse(t, "0/7"), mustParse(t, "-0.00"),
	} {
		if !isPlainZero(other) || zero.Cmp(other) != 0 || other.Cmp(zero) != 0 || other.Text() != "0" {
			t.Error(i, other.Text())
		}
	}
	expect(t, "0 + 1/2", zero.Add(half), big.NewRat(1, 2))
	expect(t, "1/2 + 0", half.Add(zero), big.NewRat(1, 2))
}

func TestOf(t *testing.T) {
	for _, n := range []int64{0, 1, -1, 10, -10, math.MaxInt64, math.MinInt64} {
		expect(t, "Of", Of(n), big.NewRat(n, 1))
	}
}

func TestOver(t *testing.T) {
	edges := []int64{0, 1, -1, 2, -2, 4, 6, -6, 9, -12, 1 << 62, math.MaxInt64, math.MinInt64, math.MinInt64 + 1}
	for _, n := range edges {
		for _, d := range edges {
			over, ok := Over(n, d)
			made, okMade := Make(whole.Of(n), whole.Of(d))
			if ok != (d != 0) || okMade != ok {
				t.Fatal(n, d, ok, okMade)
			}
			if !ok {
				if !isPlainZero(over) || !isPlainZero(made) {
					t.Fatal("a number beside false", n, d)
				}
				continue
			}
			expect(t, "Over", over, big.NewRat(n, d))
			expect(t, "Make", made, big.NewRat(n, d))
		}
	}
}

func TestMake(t *testing.T) {
	r := rand.New(rand.NewSource(2))
	for i := range 500 {
		num, den, factor := edgePart(r), edgePart(r), edgePart(r)
		if i%2 == 0 {
			num.Neg(num)
		}
		if i%3 == 0 {
			den.Neg(den)
		}
		want := new(big.Rat).SetFrac(num, den)
		expect(t, "Make", fromBig(num, den), want)
		expect(t, "Make of multiples", fromBig(num.Mul(num, factor), den.Mul(den, factor)), want)
	}
	if a, ok := Make(whole.From(true, nat.Of(1).Shift(100)), whole.Int{}); ok || !isPlainZero(a) {
		t.Error(a.Text(), ok)
	}
}

func TestNumAndDen(t *testing.T) {
	for _, x := range []struct {
		n, d     int64
		num, den string
	}{
		{6, -4, "-3", "2"}, {-6, -4, "3", "2"}, {0, -9, "0", "1"}, {8, 4, "2", "1"}, {-8, 4, "-2", "1"}, {1, 7, "1", "7"},
		{math.MinInt64, math.MinInt64, "1", "1"}, {1, math.MinInt64, "-1", "9223372036854775808"},
	} {
		a, _ := Over(x.n, x.d)
		if a.Num().Text() != x.num || a.Den().Text() != x.den {
			t.Error(x, a.Num().Text(), a.Den().Text())
		}
	}
}

func TestSignNegAbs(t *testing.T) {
	for _, a := range numbers() {
		n := toBig(a)
		if got := a.Sign(); got != n.Sign() {
			t.Fatal(a.Text(), got)
		}
		expect(t, "Neg", a.Neg(), new(big.Rat).Neg(n))
		expect(t, "Neg of Neg", a.Neg().Neg(), n)
		expect(t, "Abs", a.Abs(), new(big.Rat).Abs(n))
		expect(t, "Abs of Neg", a.Neg().Abs(), new(big.Rat).Abs(n))
	}
}

func TestCmp(t *testing.T) {
	list := numbers()
	tiny, _ := Of(1).Div(fromBig(new(big.Int).Lsh(big.NewInt(1), 200), big.NewInt(1)))
	for _, a := range list {
		for _, b := range append(list, a.Neg(), a.Add(tiny), a.Sub(tiny)) {
			want := toBig(a).Cmp(toBig(b))
			if got := a.Cmp(b); got != want {
				t.Fatal(a.Text(), b.Text(), got)
			}
			if got := b.Cmp(a); got != -want {
				t.Fatal(b.Text(), a.Text(), got)
			}
		}
	}
}

// 3.3, the operations

func TestOperations(t *testing.T) {
	list := numbers()
	for _, a := range list {
		for _, b := range append(list, a.Neg()) {
			x, y := toBig(a), toBig(b)
			expect(t, "Add", a.Add(b), new(big.Rat).Add(x, y))
			expect(t, "Sub", a.Sub(b), new(big.Rat).Sub(x, y))
			expect(t, "Mul", a.Mul(b), new(big.Rat).Mul(x, y))
			quotient, ok := a.Div(b)
			if b.Sign() == 0 {
				if ok || !isPlainZero(quotient) {
					t.Fatal("Div by 0", a.Text(), quotient.Text(), ok)
				}
				continue
			}
			if !ok {
				t.Fatal("Div", a.Text(), b.Text())
			}
			expect(t, "Div", quotient, new(big.Rat).Quo(x, y))
		}
	}
}

// TestOperationsOnSmallParts also tries all sums and products that cancel.
func TestOperationsOnSmallParts(t *testing.T) {
	var list []Q
	for d := int64(1); d <= 12; d++ {
		for n := int64(-9); n <= 9; n++ {
			a, _ := Over(n, d)
			list = append(list, a)
		}
	}
	for _, a := range list {
		for _, b := range list {
			expect(t, "Add", a.Add(b), new(big.Rat).Add(toBig(a), toBig(b)))
			expect(t, "Mul", a.Mul(b), new(big.Rat).Mul(toBig(a), toBig(b)))
		}
	}
}

// Rule 2: a call changes no number that it is given.
func TestNumbersStayAsTheyAre(t *testing.T) {
	list := numbers()
	for i, a := range list {
		b := list[(i*7+3)%len(list)]
		x, y := toBig(a), toBig(b)
		a.Add(b)
		a.Sub(b)
		a.Mul(b)
		a.Div(b)
		a.Cmp(b)
		a.Neg()
		a.Abs()
		a.Floor()
		a.Near(9)
		a.Text()
		Simple(a, b)
		Simple(b, a)
		expect(t, "the first", a, x)
		expect(t, "the second", b, y)
	}
}

// 3.6

func TestFieldAxioms(t *testing.T) {
	list := numbers()
	for i := range 4 * len(list) {
		a, b, c := list[i%len(list)], list[(i*7+3+i/len(list))%len(list)], list[(i*11+5)%len(list)]
		same := func(law string, x, y Q) {
			t.Helper()
			if x.Cmp(y) != 0 || x.Text() != y.Text() || !Same([]Q{x}, []Q{y}) || x.Num().Cmp(y.Num()) != 0 || x.Den().Cmp(y.Den()) != 0 {
				t.Fatal(law, a.Text(), b.Text(), c.Text())
			}
		}
		same("a + b = b + a", a.Add(b), b.Add(a))
		same("(a + b) + c = a + (b + c)", a.Add(b).Add(c), a.Add(b.Add(c)))
		same("a * b = b * a", a.Mul(b), b.Mul(a))
		same("(a * b) * c = a * (b * c)", a.Mul(b).Mul(c), a.Mul(b.Mul(c)))
		same("a * (b + c) = a * b + a * c", a.Mul(b.Add(c)), a.Mul(b).Add(a.Mul(c)))
		same("a + 0 = a", a.Add(Q{}), a)
		same("a * 1 = a", a.Mul(Of(1)), a)
		same("a + -a = 0", a.Add(a.Neg()), Q{})
		same("a - b = a + -b", a.Sub(b), a.Add(b.Neg()))
		same("a + b - b = a", a.Add(b).Sub(b), a)
		if inverse, ok := Of(1).Div(a); ok {
			same("a * (1 / a) = 1", a.Mul(inverse), Of(1))
			quotient, _ := b.Div(a)
			same("b / a = b * (1 / a)", quotient, b.Mul(inverse))
			same("b / a * a = b", quotient.Mul(a), b)
		}
	}
}

func TestSameNumberWrittenDifferently(t *testing.T) {
	for _, same := range [][]Q{
		parseAll(t, "1/2", "0.5", "2/4", "0.50", "0.500000000000000000000000000000", "99999999999999999999/199999999999999999998"),
		parseAll(t, "-3", "-3/1", "-3.0", "-6/2", "-3.000", "-300000000000000000000000/100000000000000000000000"),
		parseAll(t, "0", "0/5", "0.0", "-0.0", "0.000"),
		parseAll(t, "1/1267650600228229401496703205376", "2/2535301200456458802993406410752"),
	} {
		want := same[0]
		third, _ := Over(1, 3)
		quotient, _ := want.Mul(Of(9)).Div(Of(9))
		made, _ := Make(want.Num().Mul(whole.Of(-10)), whole.From(true, want.Den()).Mul(whole.Of(10)))
		same = append(same, want.Add(third).Sub(third), quotient, made, Sum([]Q{want, third, third.Neg()}))
		for i, a := range same {
			if a.Cmp(want) != 0 || a.Text() != want.Text() || a.Num().Cmp(want.Num()) != 0 || a.Den().Cmp(want.Den()) != 0 {
				t.Error(i, a.Text(), want.Text())
			}
			expectOneForm(t, want.Text(), a)
		}
	}
}

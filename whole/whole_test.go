package whole

import (
	"math"
	"math/big"
	"math/rand"
	"strings"
	"testing"

	"abaculus/api"
	"abaculus/nat"
)

// The tests hold Int against math/big, on numbers of both signs whose words lie
// at the edges of what a word can be, and on the cases that chapter 2 names.

func toBig(a Int) *big.Int {
	n := new(big.Int).SetBytes(a.abs.Bytes())
	if a.neg {
		n.Neg(n)
	}
	return n
}

func fromBig(n *big.Int) Int {
	return From(n.Sign() < 0, nat.FromBytes(n.Bytes()))
}

func mustParse(t *testing.T, s string) Int {
	t.Helper()
	a, ok := Parse(s)
	if !ok {
		t.Fatalf("Parse(%q) is false", s)
	}
	return a
}

func expect(t *testing.T, what string, got Int, want *big.Int) {
	t.Helper()
	if toBig(got).Cmp(want) != 0 || got.neg != (want.Sign() < 0) {
		t.Fatalf("%s: got %s, want %s", what, got.Text(), want)
	}
}

// isPlainZero holds for the zero value only, not for a negative 0.
func isPlainZero(a Int) bool {
	return !a.neg && isZero(a.abs)
}

// edgeNat is a number of n words, most of them at the edges.
func edgeNat(r *rand.Rand, n int) nat.Nat {
	edges := []uint64{0, 1, 2, 1<<32 - 1, 1 << 32, 1<<63 - 1, 1 << 63, 1<<63 + 1, 1<<64 - 2, 1<<64 - 1}
	var a nat.Nat
	for range n {
		w := edges[r.Intn(len(edges))]
		if r.Intn(4) == 0 {
			w = r.Uint64()
		}
		a = a.Shift(64).Add(nat.Of(w))
	}
	return a
}

// edgeNumbers is numbers of both signs and of all lengths up to 4 words.
func edgeNumbers() []Int {
	r := rand.New(rand.NewSource(1))
	list := []Int{{}, Of(1), Of(-1), Of(2), Of(-2), Of(math.MaxInt64), Of(math.MinInt64)}
	for i := range 70 {
		list = append(list, From(i%2 == 0, edgeNat(r, i%5)))
	}
	return list
}

// 2.1

func TestZeroValue(t *testing.T) {
	var zero Int
	if zero.Text() != "0" || zero.Sign() != 0 || zero.Abs().Bits() != 0 {
		t.Error(zero.Text(), zero.Sign(), zero.Abs().Text())
	}
	if n, ok := zero.Small(); n != 0 || !ok {
		t.Error(n, ok)
	}
	for _, other := range []Int{Of(0), From(false, nat.Of(0)), From(true, nat.Of(0)), zero.Neg(), mustParse(t, "0")} {
		if zero.Cmp(other) != 0 || other.Cmp(zero) != 0 || !isPlainZero(other) {
			t.Error(other)
		}
	}
}

// TestZeroHasNoSign reaches 0 from negative numbers.
func TestZeroHasNoSign(t *testing.T) {
	a := Of(-6)
	quotient, rest, _ := Of(0).Div(a)
	_, even, _ := a.Div(Of(3))
	_, less, _ := Of(6).Div(Of(-3))
	power, _ := Int{}.Pow(3)
	_, _, y := Bezout(a, Int{})
	for i, zero := range []Int{a.Add(Of(6)), Of(6).Add(a), a.Sub(a), a.Mul(Of(0)), Of(0).Mul(a), quotient, rest, even, less, power, y} {
		if !isPlainZero(zero) || zero.Text() != "0" || zero.Sign() != 0 || zero.Cmp(Int{}) != 0 {
			t.Error(i, zero.Text(), zero.Sign())
		}
	}
}

func TestOf(t *testing.T) {
	for _, n := range []int64{0, 1, -1, 10, -10, math.MaxInt64, math.MinInt64, math.MinInt64 + 1, math.MaxInt32, math.MinInt32} {
		expect(t, "Of", Of(n), big.NewInt(n))
		if got, want := Of(n).Text(), big.NewInt(n).String(); got != want {
			t.Error(got, want)
		}
	}
}

func TestFrom(t *testing.T) {
	long := nat.Of(3).Shift(100)
	for _, x := range []struct {
		neg  bool
		a    nat.Nat
		want string
	}{
		{false, nat.Of(0), "0"},
		{true, nat.Of(0), "0"},
		{false, nat.Of(3), "3"},
		{true, nat.Of(3), "-3"},
		{false, long, "3802951800684688204490109616128"},
		{true, long, "-3802951800684688204490109616128"},
	} {
		if got := From(x.neg, x.a).Text(); got != x.want {
			t.Error(got, x.want)
		}
	}
}

func TestTextAndParse(t *testing.T) {
	for _, a := range edgeNumbers() {
		want := toBig(a).String()
		if got := a.Text(); got != want {
			t.Fatal(got, want)
		}
		expect(t, "Parse", mustParse(t, want), toBig(a))
	}
}

func TestParseRefuses(t *testing.T) {
	most := strings.Repeat("9", api.MaxDigits)
	for _, s := range []string{most, "-" + most} {
		if got := mustParse(t, s).Text(); got != s {
			t.Error(got)
		}
	}
	for _, s := range []string{
		"", "-", "-0", "--5", "+5", "-+5", "+-5", "00", "-00", "05", "-05", "5-", " 5", "- 5", "-5 ", "5.0", "-5.0", "1/2",
		"1_0", "0x1", "a", "-a", "−5", "-\x00", "٣", most + "9", "-" + most + "9", "-" + strings.Repeat("0", api.MaxDigits),
	} {
		if a, ok := Parse(s); ok || !isPlainZero(a) {
			t.Errorf("Parse(%q) = %s, %v", s, a.Text(), ok)
		}
	}
}

func TestSmall(t *testing.T) {
	for _, n := range []int64{0, 1, -1, math.MaxInt64, math.MaxInt64 - 1, math.MinInt64, math.MinInt64 + 1} {
		if got, ok := Of(n).Small(); got != n || !ok {
			t.Error(n, got, ok)
		}
	}
	for _, s := range []string{
		"9223372036854775808", "-9223372036854775809", "18446744073709551615", "-18446744073709551615",
		"18446744073709551616", "-18446744073709551616", "18446744073709551617", "-18446744073709551617",
	} {
		if n, ok := mustParse(t, s).Small(); n != 0 || ok {
			t.Error(s, n, ok)
		}
	}
}

func TestSigns(t *testing.T) {
	for _, a := range edgeNumbers() {
		n := toBig(a)
		if got := a.Sign(); got != n.Sign() {
			t.Fatal(a.Text(), got)
		}
		expect(t, "Neg", a.Neg(), new(big.Int).Neg(n))
		expect(t, "Neg of Neg", a.Neg().Neg(), n)
		expect(t, "Abs", From(false, a.Abs()), new(big.Int).Abs(n))
	}
}

func TestCmp(t *testing.T) {
	list := edgeNumbers()
	for _, a := range list {
		for _, b := range append(list, a.Neg()) {
			if got, want := a.Cmp(b), toBig(a).Cmp(toBig(b)); got != want {
				t.Fatal(a.Text(), b.Text(), got)
			}
		}
	}
}

// 2.2

func TestAddSubMul(t *testing.T) {
	list := edgeNumbers()
	for _, a := range list {
		for _, b := range append(list, a, a.Neg()) {
			x, y := toBig(a), toBig(b)
			expect(t, "Add", a.Add(b), new(big.Int).Add(x, y))
			expect(t, "Sub", a.Sub(b), new(big.Int).Sub(x, y))
			expect(t, "Mul", a.Mul(b), new(big.Int).Mul(x, y))
		}
	}
}

// floorDiv is the quotient rounded toward negative infinity, and the rest.
func floorDiv(a, b *big.Int) (q, r *big.Int) {
	q, r = new(big.Int).QuoRem(a, b, new(big.Int))
	if r.Sign()*b.Sign() < 0 {
		q.Sub(q, big.NewInt(1))
		r.Add(r, b)
	}
	return q, r
}

func TestDiv(t *testing.T) {
	list := edgeNumbers()
	for _, a := range list {
		for _, b := range append(list, a, a.Neg()) {
			q, r, ok := a.Div(b)
			if b.Sign() == 0 {
				if ok || !isPlainZero(q) || !isPlainZero(r) {
					t.Fatal("Div by 0", a.Text(), q.Text(), r.Text(), ok)
				}
				continue
			}
			wantQ, wantR := floorDiv(toBig(a), toBig(b))
			expect(t, "Div's quotient", q, wantQ)
			expect(t, "Div's remainder", r, wantR)
			if !ok || r.Sign()*b.Sign() < 0 || q.Mul(b).Add(r).Cmp(a) != 0 || r.abs.Cmp(b.abs) >= 0 {
				t.Fatal("Div", a.Text(), b.Text(), q.Text(), r.Text(), ok)
			}
		}
	}
}

func TestDivExamples(t *testing.T) {
	for _, x := range [][4]int64{
		{-7, 2, -4, 1}, {7, -2, -4, -1}, {7, 2, 3, 1}, {-7, -2, 3, -1}, {-6, 2, -3, 0}, {6, -2, -3, 0}, {1, -5, -1, -4},
		{-1, 5, -1, 4}, {-5, 5, -1, 0}, {0, -5, 0, 0},
	} {
		q, r, ok := Of(x[0]).Div(Of(x[1]))
		if q.Cmp(Of(x[2])) != 0 || r.Cmp(Of(x[3])) != 0 || !ok {
			t.Error(x, q.Text(), r.Text(), ok)
		}
	}
}

func TestPow(t *testing.T) {
	for _, a := range edgeNumbers() {
		for _, n := range []int{0, 1, 2, 3, 6, 7} {
			got, ok := a.Pow(n)
			if !ok {
				t.Fatal(a.Text(), n)
			}
			expect(t, "Pow", got, new(big.Int).Exp(toBig(a), big.NewInt(int64(n)), nil))
		}
	}
}

func TestPowLimits(t *testing.T) {
	for _, n := range []int{-1, -2, -3, math.MinInt, 1<<16 + 1, 1<<16 + 2, math.MaxInt} {
		for _, a := range []Int{{}, Of(1), Of(-1), Of(-2)} {
			if got, ok := a.Pow(n); ok || !isPlainZero(got) {
				t.Error(a.Text(), n, got.Text(), ok)
			}
		}
	}
	if got, ok := Of(-2).Pow(1 << 16); !ok || got.Cmp(From(false, nat.Of(1).Shift(1<<16))) != 0 {
		t.Error(got.Sign(), ok)
	}
	if got, ok := Of(-2).Pow(1<<16 - 1); !ok || got.Cmp(From(true, nat.Of(1).Shift(1<<16-1))) != 0 {
		t.Error(got.Sign(), ok)
	}
}

func expectGcd(t *testing.T, a, b Int) {
	t.Helper()
	x, y := toBig(a), toBig(b)
	want := new(big.Int).GCD(nil, nil, x.Abs(x), y.Abs(y))
	expect(t, "Gcd of "+a.Text()+" and "+b.Text(), From(false, Gcd(a, b)), want)
}

func TestGcdExamples(t *testing.T) {
	for _, x := range [][3]int64{
		{0, 0, 0}, {0, 5, 5}, {5, 0, 5}, {0, -5, 5}, {-5, 0, 5}, {12, 18, 6}, {-12, 18, 6}, {12, -18, 6}, {-12, -18, 6},
		{1, 7, 1}, {7, 7, 7}, {48, 64, 16}, {3, 1 << 62, 1}, {math.MinInt64, math.MinInt64 / 2, 1 << 62},
	} {
		if got := Gcd(Of(x[0]), Of(x[1])); got.Cmp(nat.Of(uint64(x[2]))) != 0 {
			t.Error(x, got.Text())
		}
	}
	if got := Gcd(Of(math.MinInt64), Int{}); got.Cmp(nat.Of(1<<63)) != 0 {
		t.Error(got.Text())
	}
}

func TestGcd(t *testing.T) {
	list := edgeNumbers()
	for _, a := range list {
		for _, b := range list {
			expectGcd(t, a, b)
		}
	}
}

// TestGcdOfMultiples gives numbers of all lengths a long common divisor.
func TestGcdOfMultiples(t *testing.T) {
	r := rand.New(rand.NewSource(2))
	for i := range 20000 {
		common := From(false, edgeNat(r, i%4))
		a, b := From(false, edgeNat(r, i%11)), From(true, edgeNat(r, i%7))
		expectGcd(t, a.Mul(common), b.Mul(common))
		expectGcd(t, b, a.Add(b))
	}
}

// TestGcdWithGivenQuotients makes numbers from the quotients that Euclid's
// algorithm finds: all of them 1, greater than a word, or mixed.
func TestGcdWithGivenQuotients(t *testing.T) {
	r := rand.New(rand.NewSource(3))
	quotients := []nat.Nat{
		nat.Of(1), nat.Of(2), nat.Of(3), nat.Of(1<<31 - 1), nat.Of(1 << 31), nat.Of(1<<32 - 1), nat.Of(1 << 32),
		nat.Of(1<<63 - 1), nat.Of(1<<64 - 1), nat.Of(1).Shift(64), nat.Of(1).Shift(200),
	}
	for most := range len(quotients) {
		for range 300 {
			last, next := nat.Of(r.Uint64()>>r.Intn(64)), nat.Nat{}
			if r.Intn(2) == 0 {
				last = edgeNat(r, 3)
			}
			divisor := last
			for range 2 + r.Intn(120/(most+1)) {
				last, next = last.Mul(quotients[r.Intn(most+1)]).Add(next), last
			}
			if got := Gcd(From(true, last), From(false, next)); got.Cmp(divisor) != 0 {
				t.Fatal(last.Text(), next.Text(), got.Text())
			}
		}
	}
}

// TestGcdOfLongNumbers goes beyond the bits that one Shift of nat reaches.
func TestGcdOfLongNumbers(t *testing.T) {
	r := rand.New(rand.NewSource(4))
	for _, bits := range []int{500, 5000, 70000, 150000} {
		limit := new(big.Int).Lsh(big.NewInt(1), uint(bits))
		a, b := fromBig(new(big.Int).Rand(r, limit)), fromBig(new(big.Int).Rand(r, limit))
		common := From(false, edgeNat(r, 9))
		expectGcd(t, a.Mul(common), b.Mul(common))
		expectGcd(t, a.Mul(common), common)
		expectGcd(t, Of(6), a)
	}
}

// expectBezout checks all that 2.2 says of Bezout.
func expectBezout(t *testing.T, a, b Int) {
	t.Helper()
	g, x, y := Bezout(a, b)
	if g.neg || g.abs.Cmp(Gcd(a, b)) != 0 {
		t.Fatal("g", a.Text(), b.Text(), g.Text())
	}
	if a.Mul(x).Add(b.Mul(y)).Cmp(g) != 0 {
		t.Fatal("a * x + b * y", a.Text(), b.Text(), x.Text(), y.Text())
	}
	if b.Sign() == 0 {
		if x.Cmp(Of(int64(a.Sign()))) != 0 || !isPlainZero(y) {
			t.Fatal("b = 0", a.Text(), x.Text(), y.Text())
		}
		return
	}
	// One factor less by b / g would do as well, if it were not negative.
	period, _, _ := From(false, b.abs).Div(g)
	if x.Sign() < 0 || x.Cmp(period) >= 0 {
		t.Fatal("x", a.Text(), b.Text(), x.Text())
	}
}

func TestBezout(t *testing.T) {
	list := edgeNumbers()
	for _, a := range list {
		for _, b := range append(list, a, a.Neg(), a.Mul(Of(3))) {
			expectBezout(t, a, b)
		}
	}
}

// TestBezoutOfSmallNumbers looks for the least factor by trying all.
func TestBezoutOfSmallNumbers(t *testing.T) {
	for a := int64(-30); a <= 30; a++ {
		for b := int64(-30); b <= 30; b++ {
			expectBezout(t, Of(a), Of(b))
			if b == 0 {
				continue
			}
			g, x, _ := Bezout(Of(a), Of(b))
			divisor, _ := g.Small()
			least := int64(0)
			for (divisor-a*least)%b != 0 {
				least++
			}
			if x.Cmp(Of(least)) != 0 {
				t.Fatal(a, b, x.Text(), least)
			}
		}
	}
}

func TestBezoutExamples(t *testing.T) {
	for _, w := range [][5]int64{
		{6, 4, 2, 1, -1}, {4, 6, 2, 2, -1}, {0, 0, 0, 0, 0}, {7, 0, 7, 1, 0}, {-7, 0, 7, -1, 0}, {0, 7, 7, 0, 1},
		{0, -7, 7, 0, -1}, {5, 5, 5, 0, 1}, {5, -5, 5, 0, -1}, {10, 5, 5, 0, 1}, {5, 10, 5, 1, 0}, {-5, 10, 5, 1, 1},
	} {
		g, x, y := Bezout(Of(w[0]), Of(w[1]))
		for i, got := range []Int{g, x, y} {
			if got.Cmp(Of(w[2+i])) != 0 {
				t.Error(w, i, got.Text())
			}
		}
	}
}

// Rule 2: a call changes no number that it is given.
func TestNumbersStayAsTheyAre(t *testing.T) {
	r := rand.New(rand.NewSource(5))
	for _, lengths := range [][2]int{{1, 1}, {5, 1}, {1, 5}, {9, 3}, {3, 3}, {40, 30}} {
		a, b := From(true, edgeNat(r, lengths[0])), From(false, edgeNat(r, lengths[1]))
		x, y := toBig(a), toBig(b)
		a.Neg()
		a.Add(b)
		a.Sub(b)
		a.Mul(b)
		a.Div(b)
		b.Div(a)
		a.Pow(3)
		Gcd(a, b)
		Bezout(a, b)
		Bezout(b, a)
		a.Text()
		expect(t, "the first", a, x)
		expect(t, "the second", b, y)
	}
}

// 2.3

// TestNothingIsRounded checks that numbers reached in different ways are the
// same number, to the last digit, and that the laws of a ring hold.
func TestNothingIsRounded(t *testing.T) {
	list := edgeNumbers()
	for i, a := range list {
		b, c := list[(i*7+3)%len(list)], list[(i*11+5)%len(list)]
		same := func(law string, x, y Int) {
			t.Helper()
			if x.Cmp(y) != 0 || x.Text() != y.Text() || x.Sign() != y.Sign() || x.Abs().Cmp(y.Abs()) != 0 {
				t.Fatal(law, a.Text(), b.Text(), c.Text())
			}
		}
		same("a + b = b + a", a.Add(b), b.Add(a))
		same("(a + b) + c = a + (b + c)", a.Add(b).Add(c), a.Add(b.Add(c)))
		same("a * b = b * a", a.Mul(b), b.Mul(a))
		same("(a * b) * c = a * (b * c)", a.Mul(b).Mul(c), a.Mul(b.Mul(c)))
		same("a * (b + c) = a * b + a * c", a.Mul(b.Add(c)), a.Mul(b).Add(a.Mul(c)))
		same("a + -a = 0", a.Add(a.Neg()), Int{})
		same("a + 0 = a", a.Add(Int{}), a)
		same("a * 1 = a", a.Mul(Of(1)), a)
		same("a - b = -(b - a)", a.Sub(b), b.Sub(a).Neg())
		same("a + b - b = a", a.Add(b).Sub(b), a)
		same("-a * -b = a * b", a.Neg().Mul(b.Neg()), a.Mul(b))
		if q, r, ok := a.Mul(b).Div(b); ok {
			same("a * b / b = a", q, a)
			same("a * b / b leaves nothing", r, Int{})
		}
	}
}

func TestSameNumberWrittenDifferently(t *testing.T) {
	want := mustParse(t, "-1208925819614629174706176")
	power, _ := Of(-2).Pow(79)
	for _, a := range []Int{
		power.Mul(Of(2)), From(true, nat.Of(1).Shift(80)), want.Neg().Neg(), want.Add(Of(1)).Sub(Of(1)), Of(0).Sub(want.Neg()),
		From(want.Sign() < 0, want.Abs()),
	} {
		if a.Cmp(want) != 0 || a.Text() != want.Text() || a.Sign() != -1 || a.Abs().Cmp(want.Abs()) != 0 {
			t.Error(a.Text())
		}
	}
}

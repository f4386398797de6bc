package frac

import (
	"math/big"
	"math/rand"
	"testing"

	"abaculus/whole"
)

// 3.5

func TestSimpleExamples(t *testing.T) {
	for _, x := range [][3]string{
		{"1/4", "2/5", "1/3"}, {"0", "1", "1"}, {"0", "1/7", "1/7"}, {"0", "2/7", "1/4"}, {"1/3", "1/2", "1/2"}, {"1/2", "2/3", "2/3"},
		{"1/2", "3/5", "3/5"}, {"1/2", "59/100", "4/7"}, {"2", "7/2", "3"}, {"5/2", "3", "3"}, {"5/2", "29/10", "8/3"}, {"3", "4", "4"},
		{"3", "9", "4"}, {"314/100", "315/100", "22/7"}, {"-1", "0", "0"}, {"-1/2", "5", "0"}, {"-1/2", "0", "0"}, {"-5", "1/9", "0"},
		{"-1/2", "-1/3", "-1/3"}, {"-1/2", "-2/5", "-2/5"}, {"-7/2", "-2", "-2"}, {"-7/2", "-3", "-3"}, {"-4", "-3", "-3"},
		{"-4", "-7/2", "-7/2"}, {"-9", "-3/2", "-2"}, {"-1", "-1/9", "-1/2"}, {"-1", "-1/2", "-1/2"}, {"-1", "-2/3", "-2/3"},
	} {
		got, ok := Simple(mustParse(t, x[0]), mustParse(t, x[1]))
		if !ok || got.Text() != x[2] {
			t.Error(x, got.Text(), ok)
		}
		expectOneForm(t, x[2], got)
	}
}

func TestSimpleOfNothing(t *testing.T) {
	for _, a := range numbers() {
		for _, lo := range []Q{a, a.Add(Of(1)), a.Add(mustParse(t, "1/1000000007"))} {
			if got, ok := Simple(lo, a); ok || !isPlainZero(got) {
				t.Error(lo.Text(), a.Text(), got.Text(), ok)
			}
		}
	}
}

// simpleByTrial tries the denominators from 1 on, and for each the numerators
// by their absolute values.
func simpleByTrial(lo, hi *big.Rat) *big.Rat {
	for d := int64(1); ; d++ {
		for n := int64(0); n <= 8*d; n++ {
			for _, a := range []*big.Rat{big.NewRat(n, d), big.NewRat(-n, d)} {
				if a.Cmp(lo) > 0 && a.Cmp(hi) <= 0 {
					return a
				}
			}
		}
	}
}

func TestSimpleOfSmallNumbers(t *testing.T) {
	for _, dens := range [][2]int64{{7, 5}, {1, 1}, {6, 4}, {11, 12}, {12, 12}, {1, 9}} {
		for i := int64(-25); i <= 25; i++ {
			for j := int64(-25); j <= 25; j++ {
				lo, _ := Over(i, dens[0])
				hi, _ := Over(j, dens[1])
				if hi.Cmp(lo) <= 0 || lo.Abs().Cmp(Of(7)) > 0 || hi.Abs().Cmp(Of(7)) > 0 {
					continue
				}
				got, ok := Simple(lo, hi)
				if !ok {
					t.Fatal(lo.Text(), hi.Text())
				}
				expect(t, lo.Text()+" to "+hi.Text(), got, simpleByTrial(toBig(lo), toBig(hi)))
			}
		}
	}
}

// expectSimplest checks an answer that is no integer by its neighbors: of all
// numbers with smaller denominators these are the next ones, so that none of
// them lies between lo and hi if the neighbors do not.
func expectSimplest(t *testing.T, lo, hi, got Q) {
	t.Helper()
	if got.Cmp(lo) <= 0 || got.Cmp(hi) > 0 {
		t.Fatal("not between", lo.Text(), hi.Text(), got.Text())
	}
	if got.Sign() == 0 {
		return
	}
	if got.isWhole() {
		less := got.Sub(Of(int64(got.Sign())))
		if less.Cmp(lo) > 0 && less.Cmp(hi) <= 0 {
			t.Fatal("not the least integer", lo.Text(), hi.Text(), got.Text())
		}
		return
	}
	den := whole.From(false, got.Den())
	_, d, n := whole.Bezout(got.Num(), den)
	below, _ := Make(n.Neg(), d)
	above, _ := Make(got.Num().Add(n), den.Sub(d))
	if below.Cmp(lo) > 0 || above.Cmp(hi) <= 0 {
		t.Fatal("not the simplest", lo.Text(), hi.Text(), got.Text())
	}
}

func TestSimpleOfLongNumbers(t *testing.T) {
	r := rand.New(rand.NewSource(6))
	list := numbers()
	for i := range 3000 {
		lo := list[r.Intn(len(list))]
		hi := list[r.Intn(len(list))]
		if i%2 == 0 {
			width := fromBig(edgePart(r), new(big.Int).Lsh(edgePart(r), uint(r.Intn(200))))
			hi = lo.Add(width)
		}
		if lo.Cmp(hi) > 0 {
			lo, hi = hi, lo
		}
		if got, ok := Simple(lo, hi); ok {
			expectOneForm(t, "Simple", got)
			expectSimplest(t, lo, hi, got)
		} else if lo.Cmp(hi) != 0 {
			t.Fatal(lo.Text(), hi.Text())
		}
	}
}

// TestSimpleOfNarrowIntervals gets back a number from an interval that is too
// narrow for a simpler one, and that the number may close.
func TestSimpleOfNarrowIntervals(t *testing.T) {
	for _, a := range numbers() {
		den := whole.From(false, a.Den())
		width, _ := Make(whole.Of(1), den.Mul(den).Mul(whole.Of(4)))
		for _, ends := range [][2]Q{{a.Sub(width), a}, {a.Sub(width), a.Add(width)}} {
			if got, ok := Simple(ends[0], ends[1]); !ok || got.Cmp(a) != 0 {
				t.Fatal(a.Text(), got.Text(), ok)
			}
		}
		above, ok := Simple(a, a.Add(width))
		if !ok || above.Cmp(a) <= 0 {
			t.Fatal(a.Text(), above.Text(), ok)
		}
		expectSimplest(t, a, a.Add(width), above)
	}
}

// TestSimpleOfManySteps takes quotients of long Fibonacci numbers, whose
// continued fractions have as many parts as can be.
func TestSimpleOfManySteps(t *testing.T) {
	x, y := whole.Of(1), whole.Of(1)
	for range 20000 {
		x, y = y, x.Add(y)
	}
	a, _ := Make(y, x)
	width, _ := Make(whole.Of(1), x.Mul(x).Mul(whole.Of(4)))
	for _, sign := range []Q{Of(1), Of(-1)} {
		b := a.Mul(sign)
		if got, ok := Simple(b.Sub(width), b.Add(width)); !ok || got.Cmp(b) != 0 {
			t.Error(b.Sign(), ok)
		}
	}
}

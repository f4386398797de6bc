package frac

import (
	"math"
	"math/big"
	"testing"

	"abaculus/api"
	"abaculus/nat"
	"abaculus/whole"
)

// 3.3

func TestFloor(t *testing.T) {
	for _, x := range [][2]string{
		{"7/2", "3"}, {"-7/2", "-4"}, {"-1/2", "-1"}, {"1/2", "0"}, {"4", "4"}, {"-4", "-4"}, {"0", "0"}, {"1/9", "0"}, {"-1/9", "-1"},
		{"99/100", "0"}, {"100000000000000000000001/2", "50000000000000000000000"}, {"-100000000000000000000001/2", "-50000000000000000000001"},
	} {
		if got := mustParse(t, x[0]).Floor().Text(); got != x[1] {
			t.Error(x, got)
		}
	}
	for _, a := range numbers() {
		floor, _ := Make(a.Floor(), whole.Of(1))
		if rest := a.Sub(floor); rest.Sign() < 0 || rest.Cmp(Of(1)) >= 0 {
			t.Error(a.Text(), floor.Text())
		}
	}
}

// 3.5

func TestNearExamples(t *testing.T) {
	for _, x := range []struct {
		a    string
		bits int
		want string
	}{
		{"5/2", 0, "2"}, {"7/2", 0, "4"}, {"1/2", 0, "0"}, {"3/2", 0, "2"}, {"-5/2", 0, "-2"}, {"-7/2", 0, "-4"}, {"-1/2", 0, "0"},
		{"9/10", 0, "1"}, {"11/10", 0, "1"}, {"-9/10", 0, "-1"}, {"49/100", 0, "0"}, {"51/100", 0, "1"}, {"7", 0, "7"}, {"-8", 0, "-8"},
		{"1/3", 2, "1/4"}, {"3/8", 2, "1/2"}, {"1/8", 2, "0"}, {"-1/8", 2, "0"}, {"-3/8", 2, "-1/2"}, {"5/8", 2, "1/2"}, {"7/8", 2, "1"},
		{"5/16", 3, "1/4"}, {"7/16", 3, "1/2"}, {"7", 5, "7"}, {"3/4", 2, "3/4"}, {"3/4", 9, "3/4"}, {"255/256", 4, "1"}, {"0", 7, "0"},
		{"147573952589676412929/8", 2, "18446744073709551616"}, {"147573952589676412931/8", 2, "36893488147419103233/2"},
		{"147573952589676412929/8", 3, "147573952589676412929/8"}, {"18446744073709551615/2", 0, "9223372036854775808"},
	} {
		got := mustParse(t, x.a).Near(x.bits)
		if got.Text() != x.want {
			t.Error(x, got.Text())
		}
		expectOneForm(t, x.a, got)
	}
}

// near rounds as 3.5 defines it: it compares the multiples on both sides.
func near(a *big.Rat, bits int) *big.Rat {
	scale := new(big.Int).Lsh(big.NewInt(1), uint(bits))
	scaled := new(big.Rat).Mul(a, new(big.Rat).SetInt(scale))
	below := new(big.Int).Div(scaled.Num(), scaled.Denom())
	above := new(big.Int).Add(below, big.NewInt(1))
	fromBelow := new(big.Rat).Sub(scaled, new(big.Rat).SetInt(below))
	toAbove := new(big.Rat).Sub(new(big.Rat).SetInt(above), scaled)
	order := fromBelow.Cmp(toAbove)
	if order < 0 || order == 0 && below.Bit(0) == 0 {
		return new(big.Rat).SetFrac(below, scale)
	}
	return new(big.Rat).SetFrac(above, scale)
}

func TestNear(t *testing.T) {
	list := numbers()
	for n := int64(-70); n <= 70; n++ {
		for _, d := range []int64{1, 2, 3, 8, 12, 32} {
			a, _ := Over(n, d)
			list = append(list, a)
		}
	}
	for _, a := range list {
		for _, bits := range []int{0, 1, 2, 3, 4, 19, 20, 63, 64, 65, 200, 255, 256} {
			expect(t, "Near of "+a.Text(), a.Near(bits), near(toBig(a), bits))
		}
	}
}

// TestNearOfTies takes numbers that lie right between two multiples.
func TestNearOfTies(t *testing.T) {
	for bits := range api.MaxBits + 1 {
		unit, _ := Of(1).Div(fromBig(new(big.Int).Lsh(big.NewInt(1), uint(bits+1)), big.NewInt(1)))
		for _, n := range []int64{1, 3, 5, 7, 255, 257, math.MaxInt64, -1, -3, -5, -7, math.MinInt64 + 1} {
			tie := unit.Mul(Of(n))
			got := tie.Near(bits)
			expect(t, "Near of a tie", got, near(toBig(tie), bits))
			if got.Sub(tie).Abs().Cmp(unit) != 0 {
				t.Fatal(bits, n, got.Text())
			}
		}
	}
}

func TestNearLimits(t *testing.T) {
	for _, a := range append(numbers(), parseAll(t, "1/3", "-5/2", "3/2")...) {
		for _, bits := range []int{-1, -2, -64, math.MinInt} {
			expect(t, "Near below 0", a.Near(bits), near(toBig(a), 0))
		}
		for _, bits := range []int{api.MaxBits + 1, 1 << 16, 1 << 40, math.MaxInt} {
			expect(t, "Near above MaxBits", a.Near(bits), near(toBig(a), api.MaxBits))
		}
	}
	third := mustParse(t, "1/3")
	if got := third.Near(math.MaxInt).Den(); got.Cmp(nat.Of(1).Shift(api.MaxBits)) != 0 {
		t.Error(got.Text())
	}
}

package frac

import (
	"math/big"
	"math/rand"
	"strings"
	"testing"

	"abaculus/api"
)

// 3.2

func TestTextAndParse(t *testing.T) {
	for _, a := range numbers() {
		want := toBig(a).RatString()
		if got := a.Text(); got != want {
			t.Fatal(got, want)
		}
		expect(t, "Parse", mustParse(t, want), toBig(a))
	}
}

func TestParseExamples(t *testing.T) {
	for _, x := range [][2]string{
		{"0", "0"}, {"5", "5"}, {"-3", "-3"}, {"3/4", "3/4"}, {"2/4", "1/2"}, {"-6/3", "-2"}, {"0/5", "0"}, {"7/1", "7"},
		{"-1/3", "-1/3"}, {"0.5", "1/2"}, {"0.50", "1/2"}, {"-0.50", "-1/2"}, {"0.0", "0"}, {"-0.0", "0"}, {"10.25", "41/4"},
		{"-10.25", "-41/4"}, {"0.001", "1/1000"}, {"1.000", "1"}, {"-7.0", "-7"}, {"0.3", "3/10"}, {"12.0625", "193/16"},
	} {
		a := mustParse(t, x[0])
		if got := a.Text(); got != x[1] {
			t.Error(x, got)
		}
		expectOneForm(t, x[0], a)
	}
}

func TestParseDecimals(t *testing.T) {
	r := rand.New(rand.NewSource(3))
	digits := func(n int) string {
		b := make([]byte, n)
		for i := range b {
			b[i] = "0000123456789"[r.Intn(13)]
		}
		return string(b)
	}
	for range 500 {
		s := strings.TrimLeft(digits(1+r.Intn(60)), "0")
		if s == "" {
			s = "0"
		}
		if r.Intn(2) == 0 {
			s = "-" + s
		}
		s += "." + digits(1+r.Intn(60))
		want, _ := new(big.Rat).SetString(s)
		expect(t, s, mustParse(t, s), want)
	}
}

func TestParseLimits(t *testing.T) {
	most := strings.Repeat("9", api.MaxDigits)
	zeros := strings.Repeat("0", api.MaxDigits)
	for _, s := range []string{
		most, "-" + most, most + "/" + most[1:], "-" + most + "/" + most, "1/" + most, most + "." + most, "-" + most + "." + most,
		"0." + most, "0." + zeros, "0." + zeros[1:] + "1", most + ".5",
	} {
		want, _ := new(big.Rat).SetString(s)
		expect(t, s, mustParse(t, s), want)
	}
	for _, s := range []string{
		most + "9", "-" + most + "9", most + "9/2", "2/" + most + "9", most + "9.5", "-" + most + "9.5", "0." + most + "9", "0." + zeros + "0",
		"0." + strings.Repeat("0", 1<<16), strings.Repeat("1", 1<<16) + ".5",
	} {
		expectRefused(t, s)
	}
}

func expectRefused(t *testing.T, s string) {
	t.Helper()
	if a, ok := Parse(s); ok || !isPlainZero(a) {
		t.Errorf("Parse(%q) = %s, %v", s, a.Text(), ok)
	}
}

func TestParseRefuses(t *testing.T) {
	for _, s := range []string{
		// as an integer
		"", "-", "-0", "+1", "01", "-01", "--1", " 1", "1 ", "1e3", "0x1", "1_0", "a", "٣", "−1", "1,5", "Inf", "NaN",
		// as a ratio
		"/", "1/", "/2", "1/0", "0/0", "-1/0", "1/00", "1/02", "01/2", "-0/3", "1/-2", "-1/-2", "1/+2", "+1/2", "1/2/3", "1//2",
		"1 /2", "1/ 2", "1/2 ", " 1/2", "a/2", "1/a", "1/0x2",
		// as a decimal
		".", "-.", ".5", "-.5", "1.", "-1.", "01.5", "-01.5", "00.5", "+1.5", "--1.5", "1.-5", "1.+5", "1..5", "1.5.5", ".1.5",
		" 1.5", "1.5 ", "1. 5", "1 .5", "0.0 ", "0. 0", "0.00-", "0.0a", "0.a", "1.0x1", "1.5e3", "1.0_0", "1.٣", "-0.", "- 0.5",
		// mixed
		"1.5/2", "1/2.5", "1.5/2.5", "0.5/1", "1/2.", "./", "/.", "1/.5", "1./5", "-/1", "-1/", "-/", "-.0",
	} {
		expectRefused(t, s)
	}
}

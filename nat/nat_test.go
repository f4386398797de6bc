package nat

import (
	"bytes"
	"math"
	"math/big"
	"math/rand"
	"strings"
	"testing"

	"abaculus/api"
)

// The tests hold Nat against math/big, on numbers whose words lie at the edges
// of what a word can be, and on the cases that chapter 1 names.

func toBig(a Nat) *big.Int {
	return new(big.Int).SetBytes(a.Bytes())
}

func fromBig(n *big.Int) Nat {
	return FromBytes(n.Bytes())
}

func mustParse(t *testing.T, s string) Nat {
	t.Helper()
	a, ok := Parse(s)
	if !ok {
		t.Fatalf("Parse(%q) is false", s)
	}
	return a
}

func expect(t *testing.T, what string, got Nat, want *big.Int) {
	t.Helper()
	if toBig(got).Cmp(want) != 0 {
		t.Fatalf("%s: got %s, want %s", what, got.Text(), want)
	}
	expectOneForm(t, what, got)
}

// expectOneForm checks that a number stands in the one form that Nat names.
func expectOneForm(t *testing.T, what string, a Nat) {
	t.Helper()
	n := len(a.words)
	if n == 1 || n > 0 && (a.small != 0 || a.words[n-1] == 0) {
		t.Fatalf("%s: not in its one form: %d, %d", what, a.small, a.words)
	}
}

// isZero also holds for a number in no form but that of the zero value.
func isZero(a Nat) bool {
	return a.small == 0 && a.words == nil
}

// edgeNumber is a number of n words, most of them at the edges.
func edgeNumber(r *rand.Rand, n int) Nat {
	edges := []uint64{0, 1, 2, 1<<32 - 1, 1 << 32, 1<<63 - 1, 1 << 63, 1<<63 + 1, 1<<64 - 2, 1<<64 - 1}
	w := make([]uint64, n)
	for i := range w {
		w[i] = edges[r.Intn(len(edges))]
		if r.Intn(4) == 0 {
			w[i] = r.Uint64()
		}
	}
	return ofWords(w)
}

// edgeNumbers is numbers of all lengths up to 6 words, each length several times.
func edgeNumbers() []Nat {
	r := rand.New(rand.NewSource(1))
	list := []Nat{{}, Of(1), Of(2), Of(1<<64 - 1)}
	for i := range 90 {
		list = append(list, edgeNumber(r, i%7))
	}
	return list
}

// 1.1

func TestZeroValue(t *testing.T) {
	var zero Nat
	if zero.Text() != "0" || len(zero.Bytes()) != 0 || zero.Bits() != 0 {
		t.Error(zero.Text(), zero.Bytes(), zero.Bits())
	}
	if n, ok := zero.Small(); n != 0 || !ok {
		t.Error(n, ok)
	}
	for _, other := range []Nat{Of(0), FromBytes(nil), FromBytes([]byte{0, 0}), mustParse(t, "0")} {
		if zero.Cmp(other) != 0 || other.Cmp(zero) != 0 || !isZero(other) {
			t.Error(other)
		}
	}
}

func TestTextOf(t *testing.T) {
	for _, x := range []struct {
		n    uint64
		want string
	}{{0, "0"}, {7, "7"}, {10, "10"}, {math.MaxUint32, "4294967295"}, {math.MaxUint64, "18446744073709551615"}} {
		if got := Of(x.n).Text(); got != x.want {
			t.Error(got, x.want)
		}
	}
}

func TestTextOfManyWords(t *testing.T) {
	for _, a := range edgeNumbers() {
		if got, want := a.Text(), toBig(a).String(); got != want {
			t.Fatal(got, want)
		}
	}
	// zeros within the text, and a text far beyond what Parse takes
	for _, n := range []int{18, 19, 20, 37, 38, 39, 57, 1000} {
		power, _ := Of(10).Pow(n)
		if got, want := power.Text(), "1"+strings.Repeat("0", n); got != want {
			t.Error(n, got)
		}
		less, _ := power.Sub(Of(1))
		if got, want := less.Text(), strings.Repeat("9", n); got != want {
			t.Error(n, got)
		}
	}
}

func TestParseIsInverseOfText(t *testing.T) {
	r := rand.New(rand.NewSource(2))
	for n := 1; n <= api.MaxDigits; n++ {
		digits := make([]byte, n)
		for i := range digits {
			digits[i] = "0123456789"[r.Intn(10)]
		}
		digits[0] = "123456789"[r.Intn(9)]
		s := string(digits)
		want, _ := new(big.Int).SetString(s, 10)
		a := mustParse(t, s)
		expect(t, s, a, want)
		if a.Text() != s {
			t.Fatal(s, a.Text())
		}
	}
}

func TestParseRefuses(t *testing.T) {
	most := strings.Repeat("9", api.MaxDigits)
	if got := mustParse(t, most).Text(); got != most {
		t.Error(got)
	}
	long := strings.Repeat("1", 19)
	for _, s := range []string{
		"", "00", "007", "01", "-1", "-0", "+1", " 1", "1 ", "1.0", "1_0", "0x1", "1e3", "a", "12a", "a12", "1/1", ":",
		"\x00", "1\x00", "١", "1٣", long + "/", long + ":", "/" + long,
		most + "9", "0" + most, strings.Repeat("0", api.MaxDigits), strings.Repeat("1", 1<<16),
	} {
		if a, ok := Parse(s); ok || !isZero(a) {
			t.Errorf("Parse(%q) = %s, %v", s, a.Text(), ok)
		}
	}
}

func TestBytes(t *testing.T) {
	for _, x := range []struct {
		a    Nat
		want []byte
	}{
		{Of(0), nil},
		{Of(1), []byte{1}},
		{Of(255), []byte{255}},
		{Of(256), []byte{1, 0}},
		{Of(1 << 56), []byte{1, 0, 0, 0, 0, 0, 0, 0}},
		{Of(1 << 63).Shift(1), []byte{1, 0, 0, 0, 0, 0, 0, 0, 0}},
		{Of(0xab).Shift(120), append([]byte{0xab}, make([]byte, 15)...)},
	} {
		if got := x.a.Bytes(); !bytes.Equal(got, x.want) {
			t.Error(got, x.want)
		}
	}
}

func TestFromBytesIsInverseOfBytes(t *testing.T) {
	r := rand.New(rand.NewSource(3))
	for n := range 70 {
		b := make([]byte, n)
		r.Read(b)
		if n > 0 && b[0] == 0 {
			b[0] = 1
		}
		for zeros := range 18 {
			a := FromBytes(append(make([]byte, zeros), b...))
			expect(t, "FromBytes", a, new(big.Int).SetBytes(b))
			if !bytes.Equal(a.Bytes(), b) {
				t.Fatal(zeros, b, a.Bytes())
			}
		}
	}
}

func TestBytesShareNoMemory(t *testing.T) {
	for _, n := range []int{3, 8, 20} {
		b := bytes.Repeat([]byte{7}, n)
		a := FromBytes(b)
		b[0] = 9
		out := a.Bytes()
		out[n-1] = 9
		if !bytes.Equal(a.Bytes(), bytes.Repeat([]byte{7}, n)) {
			t.Error(a.Bytes())
		}
	}
}

func TestSmall(t *testing.T) {
	for _, n := range []uint64{0, 1, math.MaxUint32, math.MaxUint64} {
		if got, ok := Of(n).Small(); got != n || !ok {
			t.Error(n, got, ok)
		}
	}
	limit := mustParse(t, "18446744073709551616")
	for _, a := range []Nat{limit, limit.Add(Of(5)), limit.Shift(1000)} {
		if n, ok := a.Small(); n != 0 || ok {
			t.Error(a.Text(), n, ok)
		}
	}
	less, _ := limit.Sub(Of(1))
	if n, ok := less.Small(); n != math.MaxUint64 || !ok {
		t.Error(n, ok)
	}
}

func TestBits(t *testing.T) {
	for n := range 300 {
		a := Of(1).Shift(n)
		less, _ := a.Sub(Of(1))
		if a.Bits() != n+1 || less.Bits() != n {
			t.Error(n, a.Bits(), less.Bits())
		}
	}
}

func TestCmp(t *testing.T) {
	list := edgeNumbers()
	for _, a := range list {
		for _, b := range list {
			if got, want := a.Cmp(b), toBig(a).Cmp(toBig(b)); got != want {
				t.Fatal(a.Text(), b.Text(), got)
			}
		}
	}
}

// 1.2

func TestAddSubMul(t *testing.T) {
	list := edgeNumbers()
	for _, a := range list {
		for _, b := range list {
			x, y := toBig(a), toBig(b)
			expect(t, "Add", a.Add(b), new(big.Int).Add(x, y))
			expect(t, "Mul", a.Mul(b), new(big.Int).Mul(x, y))
			got, ok := a.Sub(b)
			if ok != (x.Cmp(y) >= 0) {
				t.Fatal("Sub", a.Text(), b.Text(), ok)
			}
			if !ok && !isZero(got) {
				t.Fatal("Sub tells a number beside false", got.Text())
			}
			if ok {
				expect(t, "Sub", got, x.Sub(x, y))
			}
		}
	}
}

func TestMulOfLongNumbers(t *testing.T) {
	r := rand.New(rand.NewSource(4))
	lengths := []int{1, 2, splitFrom - 1, splitFrom, splitFrom + 1, 2*splitFrom - 1, 2 * splitFrom, 2*splitFrom + 1, 3*splitFrom + 2, 333}
	for _, n := range lengths {
		for _, m := range lengths {
			for range 4 {
				a, b := edgeNumber(r, n), edgeNumber(r, m)
				expect(t, "Mul", a.Mul(b), new(big.Int).Mul(toBig(a), toBig(b)))
			}
			a, _ := Of(1).Shift(64 * n).Sub(Of(1))
			b, _ := Of(1).Shift(64 * m).Sub(Of(1))
			expect(t, "Mul of ones", a.Mul(b), new(big.Int).Mul(toBig(a), toBig(b)))
		}
	}
}

func TestDiv(t *testing.T) {
	list := edgeNumbers()
	for _, a := range list {
		for _, b := range list {
			q, r, ok := a.Div(b)
			if b.Bits() == 0 {
				if ok || !isZero(q) || !isZero(r) {
					t.Fatal("Div by 0", q.Text(), r.Text(), ok)
				}
				continue
			}
			if !ok {
				t.Fatal("Div", a.Text(), b.Text())
			}
			x, y := new(big.Int).QuoRem(toBig(a), toBig(b), new(big.Int))
			expect(t, "Div's quotient", q, x)
			expect(t, "Div's remainder", r, y)
		}
	}
}

// TestDivAroundMultiples divides numbers next to multiples of the divisor,
// where a guessed digit is most often one too great.
func TestDivAroundMultiples(t *testing.T) {
	r := rand.New(rand.NewSource(5))
	for i := range 20000 {
		b := edgeNumber(r, 2+i%4)
		q := edgeNumber(r, 1+i%5)
		if b.Bits() == 0 || q.Bits() == 0 {
			continue
		}
		multiple := b.Mul(q)
		less, _ := multiple.Sub(Of(1))
		last, _ := b.Sub(Of(1))
		quotient, rest, _ := multiple.Div(b)
		if quotient.Cmp(q) != 0 || !isZero(rest) {
			t.Fatal(multiple.Text(), b.Text(), quotient.Text(), rest.Text())
		}
		quotient, rest, _ = multiple.Add(last).Div(b)
		if quotient.Cmp(q) != 0 || rest.Cmp(last) != 0 {
			t.Fatal(multiple.Text(), b.Text(), quotient.Text(), rest.Text())
		}
		quotient, rest, _ = less.Div(b)
		if quotient.Add(Of(1)).Cmp(q) != 0 || rest.Cmp(last) != 0 {
			t.Fatal(less.Text(), b.Text(), quotient.Text(), rest.Text())
		}
	}
}

func TestDivExamples(t *testing.T) {
	if q, r, ok := Of(7).Div(Of(2)); q.Text() != "3" || r.Text() != "1" || !ok {
		t.Error(q.Text(), r.Text(), ok)
	}
	// the first words of both are equal
	u, _ := Of(1).Shift(192).Sub(Of(1))
	v, _ := Of(1).Shift(128).Sub(Of(1))
	if q, r, _ := u.Div(v); q.Cmp(Of(1).Shift(64)) != 0 || r.Cmp(Of(math.MaxUint64)) != 0 {
		t.Error(q.Text(), r.Text())
	}
}

// TestDivGuesses divides numbers whose first words mislead about the quotient.
func TestDivGuesses(t *testing.T) {
	const half, most = 1 << 63, math.MaxUint64
	for _, x := range []struct{ a, b []uint64 }{
		{[]uint64{0, 0, half - 1}, []uint64{most, half}},       // the first word alone: two too great
		{[]uint64{7, 0, half - 1}, []uint64{most, half}},       // and leaves no rest
		{[]uint64{0, 0, half}, []uint64{most, half}},           // equal first words
		{[]uint64{0, most, half}, []uint64{most, half}},        // less by the second word
		{[]uint64{3, 0, half}, []uint64{1, 0, half}},           // one word more than the divisor's first two tell
		{[]uint64{3, 0, 0, half}, []uint64{1, 0, half}},        // the third word decides
		{[]uint64{0, 0, half - 1, 1}, []uint64{most, 1}},       // with bits to shift
		{[]uint64{most, most, most, most}, []uint64{most, 1}},  // all bits
		{[]uint64{0, 0, 0, 0, 1}, []uint64{most, most, most}},  // a power by one less
		{[]uint64{0, most - 1, half}, []uint64{most, most, 1}}, // a short quotient
	} {
		a, b := ofWords(x.a), ofWords(x.b)
		q, r, _ := a.Div(b)
		wantQ, wantR := new(big.Int).QuoRem(toBig(a), toBig(b), new(big.Int))
		expect(t, "Div's quotient", q, wantQ)
		expect(t, "Div's remainder", r, wantR)
	}
}

func TestShift(t *testing.T) {
	for _, a := range edgeNumbers() {
		for _, n := range []int{0, 1, 5, 31, 32, 63, 64, 65, 127, 128, 200, 1000} {
			expect(t, "Shift up", a.Shift(n), new(big.Int).Lsh(toBig(a), uint(n)))
			expect(t, "Shift down", a.Shift(-n), new(big.Int).Rsh(toBig(a), uint(n)))
		}
	}
}

func TestShiftLimits(t *testing.T) {
	const most = 1 << 16
	for _, n := range []int{most, most + 1, 1 << 40, math.MaxInt} {
		if got := Of(5).Shift(n).Bits(); got != most+3 {
			t.Error(n, got)
		}
		if got := (Nat{}).Shift(n); !isZero(got) {
			t.Error(n, got.Bits())
		}
	}
	if got := Of(5).Shift(most - 1).Bits(); got != most+2 {
		t.Error(got)
	}
	long := Of(13).Shift(most).Shift(10) // 13 * 2^(most + 10)
	want := Of(13).Shift(10)
	for _, n := range []int{-most, -most - 1, -1 << 40, math.MinInt + 1, math.MinInt} {
		if got := long.Shift(n); got.Cmp(want) != 0 {
			t.Error(n, got.Bits())
		}
		if got := Of(math.MaxUint64).Shift(n); !isZero(got) {
			t.Error(n, got.Text())
		}
	}
	if got := long.Shift(-most + 1); got.Cmp(want.Shift(1)) != 0 {
		t.Error(got.Bits())
	}
}

func TestPow(t *testing.T) {
	for _, a := range edgeNumbers() {
		for _, n := range []int{0, 1, 2, 3, 7, 8, 31} {
			got, ok := a.Pow(n)
			if !ok {
				t.Fatal(a.Text(), n)
			}
			expect(t, "Pow", got, new(big.Int).Exp(toBig(a), big.NewInt(int64(n)), nil))
		}
	}
}

func TestPowLimits(t *testing.T) {
	for _, n := range []int{-1, math.MinInt, 1<<16 + 1, math.MaxInt} {
		for _, a := range []Nat{{}, Of(1), Of(2), Of(1).Shift(100)} {
			if got, ok := a.Pow(n); ok || !isZero(got) {
				t.Error(a.Text(), n, got.Text(), ok)
			}
		}
	}
	if got, ok := Of(2).Pow(1 << 16); !ok || got.Cmp(Of(1).Shift(1<<16)) != 0 {
		t.Error(got.Bits(), ok)
	}
	if got, ok := (Nat{}).Pow(0); !ok || got.Text() != "1" {
		t.Error(got.Text(), ok)
	}
	if got, ok := (Nat{}).Pow(1 << 16); !ok || !isZero(got) {
		t.Error(got.Text(), ok)
	}
}

func TestRoot(t *testing.T) {
	for n := range uint64(2000) {
		if got, want := Of(n).Root().Text(), new(big.Int).Sqrt(toBig(Of(n))).String(); got != want {
			t.Fatal(n, got, want)
		}
	}
	for _, a := range edgeNumbers() {
		square := a.Mul(a)
		if got := square.Root(); got.Cmp(a) != 0 {
			t.Fatal(a.Text(), got.Text())
		}
		expect(t, "Root", a.Root(), new(big.Int).Sqrt(toBig(a)))
		if less, ok := square.Sub(Of(1)); ok {
			expect(t, "Root below a square", less.Root(), toBig(a).Sub(toBig(a), big.NewInt(1)))
		}
	}
}

func TestRootOfLongNumber(t *testing.T) {
	power := Of(1).Shift(1 << 16)
	square := power.Mul(power) // its root lies beyond what one Shift reaches
	if got := square.Root(); got.Cmp(power) != 0 {
		t.Error(got.Bits())
	}
	more := square.Shift(1 << 10).Add(Of(12345))
	expect(t, "Root", more.Root(), new(big.Int).Sqrt(toBig(more)))
}

// Rule 2: a call changes no number that it is given.
func TestNumbersStayAsTheyAre(t *testing.T) {
	r := rand.New(rand.NewSource(6))
	for _, lengths := range [][2]int{{1, 1}, {5, 1}, {1, 5}, {9, 3}, {3, 3}, {90, 50}, {90, 81}} {
		a, b := edgeNumber(r, lengths[0]).Add(Of(9)), edgeNumber(r, lengths[1]).Add(Of(9))
		x, y := a.Bytes(), b.Bytes()
		a.Add(b)
		b.Sub(a)
		a.Sub(b)
		a.Mul(b)
		a.Div(b)
		a.Shift(3)
		a.Shift(-3)
		a.Pow(3)
		a.Root()
		a.Text()
		if !bytes.Equal(a.Bytes(), x) || !bytes.Equal(b.Bytes(), y) {
			t.Error("changed", lengths)
		}
	}
}

// 1.3

// TestNothingIsRounded checks that numbers reached in different ways are the
// same number, to the last digit, and that the laws of natural numbers hold.
func TestNothingIsRounded(t *testing.T) {
	list := edgeNumbers()
	for i, a := range list {
		b, c := list[(i*7+3)%len(list)], list[(i*11+5)%len(list)]
		same := func(law string, x, y Nat) {
			t.Helper()
			if x.Cmp(y) != 0 || x.Text() != y.Text() || !bytes.Equal(x.Bytes(), y.Bytes()) || x.Bits() != y.Bits() {
				t.Fatal(law, a.Text(), b.Text(), c.Text())
			}
		}
		same("a + b = b + a", a.Add(b), b.Add(a))
		same("(a + b) + c = a + (b + c)", a.Add(b).Add(c), a.Add(b.Add(c)))
		same("a * b = b * a", a.Mul(b), b.Mul(a))
		same("(a * b) * c = a * (b * c)", a.Mul(b).Mul(c), a.Mul(b.Mul(c)))
		same("a * (b + c) = a * b + a * c", a.Mul(b.Add(c)), a.Mul(b).Add(a.Mul(c)))
		same("a + a = 2 * a", a.Add(a), a.Shift(1))
		back, ok := a.Add(b).Sub(b)
		same("a + b - b = a", back, a)
		if !ok {
			t.Fatal("a + b - b", a.Text(), b.Text())
		}
		if q, r, ok := a.Mul(b).Add(a).Div(b.Add(Of(1))); ok {
			same("a * (b + 1) / (b + 1) = a", q, a)
			same("a * (b + 1) leaves nothing", r, Nat{})
		}
	}
}

func TestSameNumberWrittenDifferently(t *testing.T) {
	want := mustParse(t, "1208925819614629174706176")
	power, _ := Of(2).Pow(80)
	less, _ := want.Add(Of(1)).Sub(Of(1))
	for _, a := range []Nat{power, less, Of(1).Shift(80), FromBytes([]byte{0, 0, 1, 0, 0, 0, 0, 0, 0, 0, 0, 0, 0}), fromBig(toBig(want))} {
		if a.Cmp(want) != 0 || a.Text() != want.Text() || !bytes.Equal(a.Bytes(), want.Bytes()) {
			t.Error(a.Text())
		}
		expectOneForm(t, "2^80", a)
	}
}

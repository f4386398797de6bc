package dice

import (
	"fmt"
	"math"
	"math/big"
	"slices"
	"strings"
	"testing"

	"abaculus/frac"
)

// everyResult tells what each call that draws returns.
func everyResult(d *Dice) string {
	i, ok := d.Pick(weights("1/3 0 2 7/5"))
	return fmt.Sprint(d.Next(), d.Below(1000), d.Order(6), d.Draw(9, 4), i, ok, d.Fork("name").Next(), d.State())
}

// below is Below by its promise, for an n of 1 or more.
func below(state uint64, n int) (next uint64, result int) {
	size := big.NewInt(int64(n))
	limit := new(big.Int).Div(modulus, size)
	limit.Mul(limit, size)
	for {
		var u uint64
		state, u = follow(state)
		drawn := new(big.Int).SetUint64(u)
		if drawn.Cmp(limit) < 0 {
			return state, int(drawn.Mod(drawn, size).Int64())
		}
	}
}

func sizes() []int {
	list := []int{math.MaxInt, math.MaxInt - 1, math.MaxInt/2 + 1, math.MaxInt / 2, math.MaxInt/2 + 2, math.MaxInt/3*2 + 5}
	for n := 1; n < 40; n++ {
		list = append(list, n, 1<<n, 1<<n+1, 1<<n-1+n)
	}
	return list
}

// 5.2

func TestBelow(t *testing.T) {
	for _, n := range sizes() {
		for _, seed := range seeds() {
			d, state := New(seed), seed
			for range 5 {
				var want int
				state, want = below(state, n)
				if got := d.Below(n); got != want || d.State() != state {
					t.Fatal(n, seed, got, want)
				}
			}
		}
	}
}

// TestBelowAtTheLimit draws the last number that is used and the first one that
// is passed over.
func TestBelowAtTheLimit(t *testing.T) {
	passedOver := 0
	for _, n := range sizes() {
		excess := new(big.Int).Mod(modulus, big.NewInt(int64(n))).Uint64()
		last := math.MaxUint64 - excess
		list := []uint64{0, 1, last, last - 1, math.MaxUint64}
		if last < math.MaxUint64 {
			list = append(list, last+1)
		}
		for _, u := range list {
			d := New(before(u))
			state, want := below(before(u), n)
			if got := d.Below(n); got != want || d.State() != state {
				t.Error(n, u, got, want)
			}
			if u <= last && want != int(u%uint64(n)) {
				t.Error("the test is wrong for", n, u)
			}
			if once, _ := follow(before(u)); once != d.State() {
				passedOver++
			}
		}
	}
	if passedOver == 0 {
		t.Error("nothing was passed over")
	}
}

func TestBelowOfNothing(t *testing.T) {
	for _, n := range []int{0, -1, -2, -1 << 32, math.MinInt, math.MinInt + 1} {
		d := New(9)
		if got := d.Below(n); got != 0 || d.State() != 9 {
			t.Error(n, got, d.State())
		}
	}
	d := New(9)
	if state, _ := follow(9); d.Below(1) != 0 || d.State() != state {
		t.Error("Below(1) draws nothing")
	}
}

func TestOrder(t *testing.T) {
	for _, seed := range seeds() {
		for _, n := range []int{1, 2, 3, 4, 5, 10, 33, 100} {
			want := make([]int, n)
			for i := range want {
				want[i] = i
			}
			state := seed
			for i := n - 1; i >= 1; i-- {
				var k int
				state, k = below(state, i+1)
				want[i], want[k] = want[k], want[i]
			}
			d := New(seed)
			if got := d.Order(n); !slices.Equal(got, want) || d.State() != state {
				t.Fatal(seed, n, got, want)
			}
		}
	}
}

func TestLongestOrderAndDraw(t *testing.T) {
	const most = 1 << 16
	order := New(1).Order(most)
	sorted := slices.Sorted(slices.Values(order))
	if len(order) != most || slices.Equal(order, sorted) {
		t.Fatal("no Order of", most)
	}
	for i, n := range sorted {
		if i != n {
			t.Fatal("no permutation at", i, n)
		}
	}
	if drawn := New(1).Draw(most+1, most); len(drawn) != most {
		t.Error("a Draw of", len(drawn))
	}
	for _, n := range []int{0, -1, math.MinInt, most + 1, math.MaxInt} {
		d := New(4)
		if got := d.Order(n); len(got) != 0 || d.State() != 4 {
			t.Error(n, len(got), d.State())
		}
	}
}

func TestEachOrderOccurs(t *testing.T) {
	d, seen := New(6), map[string]int{}
	for range 24 * 100 {
		seen[fmt.Sprint(d.Order(4))]++
	}
	for order, times := range seen {
		if times < 50 || times > 200 {
			t.Error(order, times)
		}
	}
	if len(seen) != 24 {
		t.Error(seen)
	}
}

func TestDraw(t *testing.T) {
	for _, seed := range seeds() {
		for _, n := range []int{1, 2, 7, 1 << 16, 1<<16 + 1, math.MaxInt, math.MaxInt/3*2 + 5} {
			for _, k := range []int{1, 2, 20} {
				state, want := seed, make([]int, k)
				for i := range want {
					state, want[i] = below(state, n)
				}
				d := New(seed)
				if got := d.Draw(n, k); !slices.Equal(got, want) || d.State() != state {
					t.Fatal(seed, n, k, got, want)
				}
			}
		}
	}
	for _, x := range [][2]int{{0, 1}, {1, 0}, {0, 0}, {-1, 5}, {5, -1}, {math.MinInt, 3}, {3, math.MinInt}, {1, 1<<16 + 1}, {1, math.MaxInt}} {
		d := New(4)
		if got := d.Draw(x[0], x[1]); len(got) != 0 || d.State() != 4 {
			t.Error(x, len(got), d.State())
		}
	}
}

func TestResultsShareNoMemory(t *testing.T) {
	d := New(2)
	order, drawn := d.Order(9), d.Draw(9, 9)
	for _, l := range [][]int{order, drawn} {
		for i := range l {
			l[i] = -1
		}
	}
	e := New(2)
	if e.Order(9); slices.Contains(d.Order(9), -1) || slices.Contains(d.Draw(9, 9), -1) || slices.Contains(e.Draw(9, 9), -1) {
		t.Error("a result was changed by the one before it")
	}
}

// 5.3

// pick is Pick by its promise, in integers: the weights are over one
// denominator.
func pick(w []int64, u uint64) int {
	total := new(big.Int)
	for _, n := range w {
		total.Add(total, big.NewInt(n))
	}
	right := total.Mul(total, new(big.Int).SetUint64(u))
	sum := new(big.Int)
	for i, n := range w {
		sum.Add(sum, big.NewInt(n))
		if new(big.Int).Lsh(sum, 64).Cmp(right) > 0 {
			return i
		}
	}
	panic("no index")
}

func over(w []int64, den int64) []frac.Q {
	list := make([]frac.Q, len(w))
	for i, n := range w {
		list[i], _ = frac.Over(n, den)
	}
	return list
}

// pickPoints are results of Next at which the index may change, and others.
func pickPoints(w []int64) []uint64 {
	list := append(seeds(), math.MaxUint64)
	total, sum := new(big.Int), new(big.Int)
	for _, n := range w {
		total.Add(total, big.NewInt(n))
	}
	for _, n := range w {
		sum.Add(sum, big.NewInt(n))
		edge := new(big.Int).Lsh(sum, 64)
		u := edge.Div(edge, total).Uint64() // 0 at the end
		list = append(list, u-1, u, u+1)
	}
	return list
}

func TestPick(t *testing.T) {
	for _, w := range [][]int64{
		{1}, {5}, {math.MaxInt64}, {1, 1}, {1, 2}, {2, 1}, {1, 1, 1}, {0, 1}, {1, 0}, {0, 0, 3, 0, 0, 4, 0},
		{1, 0, 0, 1}, {3, 5, 7, 11, 13, 17, 19}, {1, math.MaxInt64}, {math.MaxInt64, 1}, {math.MaxInt64, math.MaxInt64, math.MaxInt64},
		{0, math.MaxInt64, 0, 1, 0}, {1, 1 << 62, 1, 1 << 62, 1},
	} {
		for _, den := range []int64{1, 2, 7, 1 << 62, math.MaxInt64} {
			for _, u := range pickPoints(w) {
				d := New(before(u))
				state, _ := follow(d.State())
				if i, ok := d.Pick(over(w, den)); !ok || i != pick(w, u) || d.State() != state {
					t.Fatal(w, den, u, i, ok, pick(w, u))
				}
			}
		}
	}
}

// TestPickAtTheEdges has the edges of thirds, which no 64 bits hit, and of
// halves, which they do.
func TestPickAtTheEdges(t *testing.T) {
	for _, x := range []struct {
		w    string
		u    uint64
		want int
	}{
		{"1 1", 1<<63 - 1, 0},
		{"1 1", 1 << 63, 1},
		{"1/3 1/3 1/3", 0x5555555555555555, 0},
		{"1/3 1/3 1/3", 0x5555555555555556, 1},
		{"1/3 1/3 1/3", 0xaaaaaaaaaaaaaaaa, 1},
		{"1/3 1/3 1/3", 0xaaaaaaaaaaaaaaab, 2},
		{"0 1/7 0", 0, 1},
		{"0 1/7 0", math.MaxUint64, 1},
		{"1/18446744073709551616 1", 0, 0},
		{"1/18446744073709551616 1", 1, 1},
		{"1 1/18446744073709551616", math.MaxUint64, 0},
		{"1 1/18446744073709551614", math.MaxUint64, 1},
		{"1 1/18446744073709551615", math.MaxUint64, 1}, // the sum is equal, not greater
		{"1 1/9223372036854775808", math.MaxUint64, 1},
		{"1 1/9223372036854775808", math.MaxUint64 - 1, 0},
		{"1 1/9223372036854775808", math.MaxUint64 - 2, 0},
		{"123456789123456789123456789 0.5", math.MaxUint64, 0},
	} {
		if i, ok := New(before(x.u)).Pick(weights(x.w)); !ok || i != x.want {
			t.Error(x.w, x.u, i, ok)
		}
	}
}

func TestPickOfNothing(t *testing.T) {
	for _, s := range []string{"", "0", "0 0 0", "-1", "-1 1", "1 -1", "1 -1 5", "5 -1", "-1 5", "-1/1000 1000", "1000 0 -1/1000", "0 -1", "-1 -1"} {
		d := New(8)
		if i, ok := d.Pick(weights(s)); ok || i != 0 || d.State() != 8 {
			t.Error(s, i, ok, d.State())
		}
	}
}

// TestPickOfMany has weights whose sum has a long denominator.
func TestPickOfMany(t *testing.T) {
	w := make([]frac.Q, 600)
	for i := range w {
		w[i], _ = frac.Over(int64(i), int64(2*i+1)*1000003+int64(i)*int64(i))
	}
	given := slices.Clone(w)
	d := New(1)
	for range 5 {
		_, u := follow(d.State())
		point, _ := frac.Over(int64(u>>1), 1<<62) // u / 2^63, but for the last bit
		point = point.Mul(frac.Sum(w))
		i, ok := d.Pick(w)
		if !ok || frac.Sum(w[:i]).Add(frac.Sum(w[:i])).Cmp(point) > 0 || frac.Sum(w[:i+1]).Add(frac.Sum(w[:i+1])).Cmp(point) <= 0 {
			t.Error(i, ok)
		}
	}
	if !frac.Same(w, given) {
		t.Error("the argument was changed")
	}
}

func weights(s string) []frac.Q {
	var list []frac.Q
	for _, word := range strings.Fields(s) {
		a, ok := frac.Parse(word)
		if !ok {
			panic(word)
		}
		list = append(list, a)
	}
	return list
}

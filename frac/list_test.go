package frac

import (
	"math/big"
	"math/rand"
	"slices"
	"testing"
)

// some returns n of the numbers of the tests, in any order.
func some(r *rand.Rand, n int) []Q {
	all := numbers()
	list := make([]Q, n)
	for i := range list {
		list[i] = all[r.Intn(len(all))]
	}
	return list
}

// 3.3, the functions

func TestMinMax(t *testing.T) {
	list := numbers()
	for _, a := range list {
		for _, b := range list {
			x, y := toBig(a), toBig(b)
			if x.Cmp(y) > 0 {
				x, y = y, x
			}
			expect(t, "Min", Min(a, b), x)
			expect(t, "Max", Max(a, b), y)
		}
	}
}

func TestSumMeanDot(t *testing.T) {
	r := rand.New(rand.NewSource(4))
	for n := range 40 {
		a, b := some(r, n), some(r, n)
		sum, products := new(big.Rat), new(big.Rat)
		for i := range n {
			sum.Add(sum, toBig(a[i]))
			products.Add(products, new(big.Rat).Mul(toBig(a[i]), toBig(b[i])))
		}
		expect(t, "Sum", Sum(a), sum)
		dot, ok := Dot(a, b)
		if !ok {
			t.Fatal("Dot", n)
		}
		expect(t, "Dot", dot, products)
		mean, ok := Mean(a)
		if n == 0 {
			if ok || !isPlainZero(mean) {
				t.Fatal("Mean of nothing", mean.Text(), ok)
			}
			continue
		}
		if !ok {
			t.Fatal("Mean", n)
		}
		expect(t, "Mean", mean, sum.Quo(sum, big.NewRat(int64(n), 1)))
	}
}

func TestSumOfManyDenominators(t *testing.T) {
	var list []Q
	want := new(big.Rat)
	for i := int64(1); i <= 300; i++ {
		a, _ := Over(1, i)
		list = append(list, a)
		want.Add(want, big.NewRat(1, i))
	}
	expect(t, "Sum", Sum(list), want)
}

func TestDotOfOtherLengths(t *testing.T) {
	one, two := parseAll(t, "1"), parseAll(t, "1", "1/2")
	for _, x := range [][2][]Q{{nil, one}, {one, nil}, {one, two}, {two, one}} {
		if got, ok := Dot(x[0], x[1]); ok || !isPlainZero(got) {
			t.Error(len(x[0]), len(x[1]), got.Text(), ok)
		}
	}
	if got, ok := Dot(nil, []Q{}); !ok || !isPlainZero(got) {
		t.Error(got.Text(), ok)
	}
}

// 3.4

func TestSameAndLess(t *testing.T) {
	for _, x := range []struct {
		a, b             []string
		same, less, more bool
	}{
		{nil, nil, true, false, false},
		{nil, []string{"0"}, false, true, false},
		{nil, []string{"-5"}, false, true, false},
		{[]string{"1", "2"}, []string{"1", "2"}, true, false, false},
		{[]string{"1/2"}, []string{"0.50"}, true, false, false},
		{[]string{"1"}, []string{"1", "-9"}, false, true, false},
		{[]string{"1", "3"}, []string{"1", "2", "9"}, false, false, true},
		{[]string{"0", "9"}, []string{"1"}, false, true, false},
		{[]string{"1/3", "9"}, []string{"1/2", "0"}, false, true, false},
		{[]string{"-1/2"}, []string{"-1/3"}, false, true, false},
		{[]string{"2"}, []string{"10"}, false, true, false},
		{[]string{"3/7"}, []string{"-3/7"}, false, false, true},
		{[]string{"1", "2/3"}, []string{"1", "3/2"}, false, true, false},
		{[]string{"1/2"}, []string{"1/3"}, false, false, true},
	} {
		a, b := parseAll(t, x.a...), parseAll(t, x.b...)
		if Same(a, b) != x.same || Same(b, a) != x.same || Less(a, b) != x.less || Less(b, a) != x.more {
			t.Error(x.a, x.b, Same(a, b), Less(a, b), Less(b, a))
		}
	}
	if !Same(nil, []Q{}) || Less(nil, []Q{}) || Less([]Q{}, nil) {
		t.Error("a nil list is not as an empty one")
	}
}

func TestSameOfOne(t *testing.T) {
	list := numbers()
	for _, a := range list {
		for _, b := range list {
			order := toBig(a).Cmp(toBig(b))
			if Same([]Q{a}, []Q{b}) != (order == 0) || Less([]Q{a}, []Q{b}) != (order < 0) {
				t.Fatal(a.Text(), b.Text())
			}
		}
	}
}

func TestSortAndMedian(t *testing.T) {
	r := rand.New(rand.NewSource(5))
	for n := range 40 {
		list := some(r, n)
		before := slices.Clone(list)
		sorted := make([]*big.Rat, n)
		for i, a := range list {
			sorted[i] = toBig(a)
		}
		slices.SortFunc(sorted, (*big.Rat).Cmp)
		got := Sort(list)
		if len(got) != n {
			t.Fatal(n, len(got))
		}
		for i, a := range got {
			expect(t, "Sort", a, sorted[i])
		}
		median, ok := Median(list)
		if ok != (n > 0) || !ok && !isPlainZero(median) {
			t.Fatal("Median", n, ok)
		}
		if ok {
			want := new(big.Rat).Add(sorted[(n-1)/2], sorted[n/2])
			expect(t, "Median", median, want.Mul(want, big.NewRat(1, 2)))
		}
		if !Same(list, before) {
			t.Fatal("the list was changed")
		}
	}
}

func TestMedianExamples(t *testing.T) {
	for _, x := range []struct {
		list []string
		want string
	}{
		{[]string{"7"}, "7"}, {[]string{"1", "2"}, "3/2"}, {[]string{"3", "1", "2"}, "2"}, {[]string{"10", "9", "1"}, "9"},
		{[]string{"3", "1/2", "-1", "1/2"}, "1/2"}, {[]string{"1/3", "-5", "1/2", "100"}, "5/12"},
	} {
		if got, ok := Median(parseAll(t, x.list...)); !ok || got.Text() != x.want {
			t.Error(x.list, got.Text(), ok)
		}
	}
}

// Rule 2: what Sort returns is new memory.
func TestSortSharesNoMemory(t *testing.T) {
	list := parseAll(t, "1", "2", "3")
	sorted := Sort(list)
	sorted[0] = Of(9)
	sorted = append(sorted[:1], Of(8))
	if list[0].Text() != "1" || list[1].Text() != "2" || sorted[1].Text() != "8" {
		t.Error(list[0].Text(), list[1].Text())
	}
}

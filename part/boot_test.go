package part

import (
	"math"
	"math/rand"
	"slices"
	"testing"

	"abaculus/api"
	"abaculus/dice"
)

// absent is the numbers from 0 to n - 1 that are not in l.
func absent(n int, l []int) []int {
	var rows []int
	for row := range n {
		if !slices.Contains(l, row) {
			rows = append(rows, row)
		}
	}
	return rows
}

// 8.2

func TestBoot(t *testing.T) {
	for _, n := range []int{1, 2, 3, 4, 5, 10, 20, 47, 100, api.MaxRows - 1, api.MaxRows} {
		for seed := range uint64(20) {
			d, again := dice.New(seed), dice.New(seed)
			bag, out := Boot(n, d)
			drawn := again.Draw(n, n)
			if !slices.IsSorted(bag) || len(bag) != n || d.State() != again.State() {
				t.Fatal(n, seed, bag)
			}
			slices.Sort(drawn)
			if !slices.Equal(bag, drawn) || !slices.Equal(out, absent(n, drawn)) {
				t.Fatal(n, seed, bag, out, drawn)
			}
			if !keepsApart(bag, out) {
				t.Fatal(n, seed, "the lists share memory")
			}
		}
	}
}

func TestBootOfWrongNumbers(t *testing.T) {
	for _, n := range []int{0, -1, -api.MaxRows, math.MinInt, api.MaxRows + 1, 1 << 16, math.MaxInt} {
		d := dice.New(7)
		if bag, out := Boot(n, d); len(bag)+len(out) != 0 || d.State() != 7 {
			t.Error(n, bag, out)
		}
	}
}

func TestRest(t *testing.T) {
	for _, x := range []struct {
		n       int
		l, want []int
	}{
		{4, []int{2, 0, 2}, []int{1, 3}},
		{4, nil, []int{0, 1, 2, 3}},
		{4, []int{}, []int{0, 1, 2, 3}},
		{4, []int{3, 1, 0, 2}, nil},
		{4, []int{3}, []int{0, 1, 2}},
		{4, []int{0}, []int{1, 2, 3}},
		{4, []int{4, -1, math.MaxInt, math.MinInt, 1}, []int{0, 2, 3}},
		{1, nil, []int{0}},
		{1, []int{0, 0, 0}, nil},
		{0, nil, nil},
		{0, []int{0}, nil},
		{-1, nil, nil},
		{-3, []int{-1}, nil},
		{math.MinInt, nil, nil},
		{api.MaxRows + 1, nil, nil},
		{api.MaxRows + 1, []int{0}, nil},
		{math.MaxInt, []int{0}, nil},
	} {
		was := slices.Clone(x.l)
		if got := Rest(x.n, x.l); !slices.Equal(got, x.want) {
			t.Error(x.n, x.l, got)
		}
		if !slices.Equal(x.l, was) {
			t.Error("Rest changes its list")
		}
	}
}

func TestRestOfAnyLists(t *testing.T) {
	r := rand.New(rand.NewSource(8))
	for _, n := range []int{1, 2, 5, 30, api.MaxRows - 1, api.MaxRows} {
		for range 50 {
			l := make([]int, r.Intn(2*n))
			for i := range l {
				l[i] = r.Intn(n+4) - 2
			}
			was := slices.Clone(l)
			rest := Rest(n, l)
			if !slices.Equal(rest, absent(n, l)) || !slices.Equal(l, was) {
				t.Fatal(n, l, rest)
			}
			if !keepsApart(l, rest) {
				t.Fatal("the rest shares memory with the list")
			}
		}
	}
}

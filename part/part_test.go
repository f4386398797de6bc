package part

import (
	"math"
	"math/rand"
	"slices"
	"testing"

	"abaculus/api"
	"abaculus/dice"
)

// everyPart are the numbers of rows and of parts that the tests go through, at
// the ends and in the middle.
func everyPart(visit func(n, k int)) {
	for n := range 26 {
		for k := 2; k <= n; k++ {
			visit(n, k)
		}
	}
	for _, n := range []int{47, 100, api.MaxRows - 1, api.MaxRows} {
		for _, k := range []int{2, 3, 7, 10, n / 2, n - 1, n} {
			visit(n, k)
		}
	}
}

// dealt is what 8.1 says of the parts, part by part instead of row by row.
func dealt(order []int, k int) [][]int {
	parts := make([][]int, k)
	for p := range k {
		for i := p; i < len(order); i += k {
			parts[p] = append(parts[p], order[i])
		}
		slices.Sort(parts[p])
	}
	return parts
}

func equal(a, b [][]int) bool {
	return slices.EqualFunc(a, b, slices.Equal[[]int])
}

// partition tells whether each number from 0 to n - 1 is in one of the parts,
// once, and each part is in ascending order.
func partition(n int, parts ...[]int) bool {
	if slices.ContainsFunc(parts, func(p []int) bool { return !slices.IsSorted(p) }) {
		return false
	}
	all := slices.Concat(parts...)
	slices.Sort(all)
	for i, row := range all {
		if i != row {
			return false
		}
	}
	return len(all) == n
}

// apart is the difference of the greatest and the least of the numbers.
func apart(l []int) int {
	return slices.Max(l) - slices.Min(l)
}

// keepsApart tells whether what is appended to one list, or written into it,
// leaves the others as they are.
func keepsApart(lists ...[]int) bool {
	was := make([][]int, len(lists))
	for i, l := range lists {
		was[i] = slices.Clone(l)
	}
	for i, l := range lists {
		for j := range l {
			l[j] = -1 - i
		}
		was[i] = slices.Clone(l)
		for range cap(l) - len(l) {
			l = append(l, -1-i)
		}
		for j, other := range lists {
			if !slices.Equal(other, was[j]) {
				return false
			}
		}
	}
	return true
}

// 8.1

func TestHalves(t *testing.T) {
	check := func(n, test int) {
		d, again := dice.New(uint64(n*1000+test)), dice.New(uint64(n*1000+test))
		train, rest, e := Halves(n, test, d)
		order := again.Order(n)
		if e != api.OK || d.State() != again.State() {
			t.Fatal(n, test, e)
		}
		if len(rest) != test || len(train) != n-test || !partition(n, train, rest) {
			t.Fatal(n, test, train, rest)
		}
		for i, row := range order {
			if slices.Contains(rest, row) != (i < test) {
				t.Fatal(n, test, train, rest, order)
			}
		}
		if !keepsApart(train, rest) {
			t.Fatal(n, test, "the lists share memory")
		}
	}
	for n := range 20 {
		for test := range n + 1 {
			check(n, test)
		}
	}
	for _, test := range []int{0, 1, 99, api.MaxRows - 1, api.MaxRows} {
		check(api.MaxRows, test)
	}
}

func TestHalvesOfWrongNumbers(t *testing.T) {
	for _, x := range [][2]int{
		{5, -1}, {5, 6}, {0, 1}, {0, -1}, {-1, 0}, {-1, -1}, {-5, -7}, {5, math.MinInt}, {5, math.MaxInt}, {math.MinInt, 0}, {math.MinInt, math.MinInt},
		{api.MaxRows + 1, 0}, {api.MaxRows + 1, 5}, {api.MaxRows + 1, api.MaxRows + 1}, {api.MaxRows + 1, -1}, {math.MaxInt, 1}, {math.MaxInt, math.MaxInt}, {1 << 16, 3},
	} {
		d := dice.New(7)
		train, rest, e := Halves(x[0], x[1], d)
		if e != api.ErrArg || len(train)+len(rest) != 0 || d.State() != 7 {
			t.Error(x, train, rest, e)
		}
	}
}

func TestFolds(t *testing.T) {
	everyPart(func(n, k int) {
		seed := uint64(n*1000 + k)
		d, again := dice.New(seed), dice.New(seed)
		parts, e := Folds(n, k, d)
		if want := dealt(again.Order(n), k); e != api.OK || !equal(parts, want) || d.State() != again.State() {
			t.Fatal(n, k, parts, want, e)
		}
		if !keepsApart(parts...) {
			t.Fatal(n, k, "the parts share memory")
		}
	})
}

// wrongParts are numbers of rows and of parts that Folds and Even refuse.
var wrongParts = [][2]int{
	{5, 1}, {5, 0}, {5, -1}, {5, -2}, {5, math.MinInt}, {5, 6}, {5, math.MaxInt}, {2, 3}, {1, 1}, {1, 2}, {0, 0}, {0, 1}, {0, 2},
	{api.MaxRows + 1, 2}, {api.MaxRows + 1, api.MaxRows}, {api.MaxRows + 1, api.MaxRows + 1}, {api.MaxRows + 1, api.MaxRows + 2}, {api.MaxRows + 1, 1}, {1 << 16, 2},
}

func TestFoldsOfWrongNumbers(t *testing.T) {
	for _, x := range append([][2]int{{-1, 2}, {-3, -3}, {math.MinInt, 2}, {math.MaxInt, 2}, {math.MaxInt, math.MaxInt}}, wrongParts...) {
		d := dice.New(7)
		if parts, e := Folds(x[0], x[1], d); e != api.ErrArg || len(parts) != 0 || d.State() != 7 {
			t.Error(x, parts, e)
		}
	}
}

// labelLists are labels of n rows: all the same, all kinds of them in order,
// few of one kind, and any.
func labelLists(n int) [][]int {
	r := rand.New(rand.NewSource(int64(n)))
	lists := make([][]int, 7)
	for i := range n {
		lists[0] = append(lists[0], 0)
		lists[1] = append(lists[1], api.MaxClasses-1)
		lists[2] = append(lists[2], i%api.MaxClasses)
		lists[3] = append(lists[3], (n-1-i)%api.MaxClasses)
		lists[4] = append(lists[4], i/(n-1))
		lists[5] = append(lists[5], r.Intn(api.MaxClasses))
		lists[6] = append(lists[6], r.Intn(1+r.Intn(3)))
	}
	return lists
}

// byLabel is the rows of order, label by label.
func byLabel(order, labels []int) []int {
	var rows []int
	for label := range api.MaxClasses {
		for _, row := range order {
			if labels[row] == label {
				rows = append(rows, row)
			}
		}
	}
	return rows
}

func TestEven(t *testing.T) {
	everyPart(func(n, k int) {
		for i, labels := range labelLists(n) {
			seed := uint64(n*1000 + k*10 + i)
			d, again := dice.New(seed), dice.New(seed)
			was := slices.Clone(labels)
			parts, e := Even(labels, k, d)
			if want := dealt(byLabel(again.Order(n), labels), k); e != api.OK || !equal(parts, want) || d.State() != again.State() {
				t.Fatal(labels, k, parts, want, e)
			}
			if !slices.Equal(labels, was) {
				t.Fatal("Even changes the labels")
			}
			if !keepsApart(append(parts, labels)...) {
				t.Fatal(n, k, "the parts share memory")
			}
		}
	})
}

// TestEvenOfOneLabel: rows that are all alike fall as those of Folds do, as the
// sorting leaves them in their random order.
func TestEvenOfOneLabel(t *testing.T) {
	for seed := range uint64(50) {
		even, _ := Even(make([]int, 40), 6, dice.New(seed))
		if folds, _ := Folds(40, 6, dice.New(seed)); !equal(even, folds) {
			t.Fatal(seed, even, folds)
		}
	}
}

func TestEvenOfWrongNumbers(t *testing.T) {
	for _, x := range wrongParts {
		d := dice.New(7)
		if parts, e := Even(make([]int, x[0]), x[1], d); e != api.ErrArg || len(parts) != 0 || d.State() != 7 {
			t.Error(x, parts, e)
		}
	}
	d := dice.New(7)
	if parts, e := Even(nil, 2, d); e != api.ErrArg || parts != nil || d.State() != 7 {
		t.Error(parts, e)
	}
}

func TestEvenOfWrongLabels(t *testing.T) {
	for _, label := range []int{-1, -2, api.MaxClasses, api.MaxClasses + 1, math.MinInt, math.MaxInt} {
		for at := range 5 {
			labels := []int{0, 11, 5, 0, 1}
			labels[at] = label
			d := dice.New(7)
			if parts, e := Even(labels, 2, d); e != api.ErrArg || len(parts) != 0 || d.State() != 7 {
				t.Error(labels, parts, e)
			}
		}
	}
}

// 8.3

func TestFoldsAreOfOneSize(t *testing.T) {
	everyPart(func(n, k int) {
		parts, _ := Folds(n, k, dice.New(uint64(k)))
		var sizes []int
		for _, p := range parts {
			sizes = append(sizes, len(p))
		}
		if len(parts) != k || !partition(n, parts...) || apart(sizes) > 1 {
			t.Fatal(n, k, parts)
		}
	})
}

func TestEvenPartsHaveAllLabels(t *testing.T) {
	everyPart(func(n, k int) {
		for _, labels := range labelLists(n) {
			parts, _ := Even(labels, k, dice.New(uint64(k)))
			if len(parts) != k || !partition(n, parts...) {
				t.Fatal(labels, k, parts)
			}
			for label := -1; label < api.MaxClasses; label++ {
				counts := make([]int, k)
				for i, p := range parts {
					for _, row := range p {
						if label < 0 || labels[row] == label {
							counts[i]++
						}
					}
				}
				if apart(counts) > 1 {
					t.Fatal(labels, k, "label", label, counts)
				}
			}
		}
	})
}

func TestOneSeedOneResult(t *testing.T) {
	labels := labelLists(60)[5]
	type result struct {
		train, rest, bag, out []int
		folds, even           [][]int
		state                 uint64
	}
	run := func(seed uint64) result {
		var r result
		d := dice.New(seed)
		r.train, r.rest, _ = Halves(60, 20, d)
		r.folds, _ = Folds(60, 7, d)
		r.even, _ = Even(labels, 7, d)
		r.bag, r.out = Boot(60, d)
		r.state = d.State()
		return r
	}
	same := func(a, b result) bool {
		return slices.Equal(a.train, b.train) && slices.Equal(a.rest, b.rest) && equal(a.folds, b.folds) && equal(a.even, b.even) && slices.Equal(a.bag, b.bag) && slices.Equal(a.out, b.out) && a.state == b.state
	}
	for seed := range uint64(20) {
		if !same(run(seed), run(seed)) {
			t.Error("two results of the seed", seed)
		}
		if same(run(seed), run(seed+1)) {
			t.Error("one result of two seeds from", seed)
		}
	}
}

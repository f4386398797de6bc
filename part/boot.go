package part

import (
	"slices"

	"abaculus/api"
	"abaculus/dice"
)

// Boot draws n of the rows 0 to n - 1, each as often as it comes up, into bag;
// out is the rows that did not come up.
func Boot(n int, d *dice.Dice) (bag, out []int) {
	if n < 1 || n > api.MaxRows {
		return nil, nil
	}
	bag = d.Draw(n, n)
	slices.Sort(bag)
	return bag, Rest(n, bag)
}

// Rest returns the rows 0 to n - 1 that do not occur in l. Numbers in l that
// are no such rows have no effect.
func Rest(n int, l []int) []int {
	if n < 1 || n > api.MaxRows {
		return nil
	}
	taken := make([]bool, n)
	for _, row := range l {
		if row >= 0 && row < n {
			taken[row] = true
		}
	}
	var rest []int
	for row, t := range taken {
		if !t {
			rest = append(rest, row)
		}
	}
	return rest
}

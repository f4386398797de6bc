package score

import (
	"slices"

	"abaculus/api"
	"abaculus/frac"
)

// Point is a point of a ROC curve: the fractions of the positions that are
// false and of those that are true whose number is at least a threshold.
type Point struct {
	False, True frac.Q
}

// tally counts positions that are false and positions that are true.
type tally struct {
	no, yes int
}

// add returns the tally with one more position.
func (a tally) add(is bool) tally {
	if is {
		a.yes++
	} else {
		a.no++
	}
	return a
}

// Curve returns the ROC curve of the numbers of by as signs that is is true.
func Curve(is []bool, by []frac.Q) ([]Point, api.Errno) {
	all, e := count(is, by)
	if e != api.OK {
		return nil, e
	}
	points := []Point{{}}
	var seen tally
	for _, level := range levels(is, by) {
		seen.no += level.no
		seen.yes += level.yes
		points = append(points, Point{False: ratio(seen.no, all.no), True: ratio(seen.yes, all.yes)})
	}
	return points, api.OK
}

// Area returns the area under the ROC curve: the mean, over all pairs of a
// position that is true and one that is false, of 1 if the first has the
// greater number, 1/2 if both are equal, and 0 otherwise.
func Area(is []bool, by []frac.Q) (frac.Q, api.Errno) {
	all, e := count(is, by)
	if e != api.OK {
		return frac.Q{}, e
	}
	lower, halves := all.no, 0
	for _, level := range levels(is, by) {
		lower -= level.no
		halves += level.yes * (2*lower + level.no)
	}
	return ratio(halves, 2*all.yes*all.no), api.OK
}

// count returns the tally of all positions.
func count(is []bool, by []frac.Q) (tally, api.Errno) {
	if !match(is, by) {
		return tally{}, api.ErrShape
	}
	var all tally
	for _, x := range is {
		all = all.add(x)
	}
	if all.no == 0 || all.yes == 0 {
		return tally{}, api.ErrNone
	}
	return all, api.OK
}

// levels returns the tally of the positions with each distinct number of by,
// in descending order of the numbers.
func levels(is []bool, by []frac.Q) []tally {
	order := make([]int, len(by))
	for i := range order {
		order[i] = i
	}
	compare := func(a, b int) int { return by[b].Cmp(by[a]) }
	slices.SortFunc(order, compare)
	var list []tally
	for i, position := range order {
		if i == 0 || compare(order[i-1], position) != 0 {
			list = append(list, tally{})
		}
		last := len(list) - 1
		list[last] = list[last].add(is[position])
	}
	return list
}

package warm

import (
	"cmp"
	"math"
	"slices"
)

// tally adds floats up, and keeps how much went in: what is left where all should have cancelled out isn't nought, as floats are rounded, but it is small beside that.
type tally struct{ sum, size float64 }

func (t *tally) add(a float64) {
	t.sum += a
	t.size += math.Abs(a)
}

// left gives the sum; nought, if it is dust.
func (t tally) left() float64 {
	const dust = 1e-11
	if math.Abs(t.sum) < dust*t.size {
		return 0
	}
	return t.sum
}

// takenAway gives a less b so many times.
func takenAway(a, b, times float64) float64 {
	var t tally
	t.add(a)
	t.add(-b * times)
	return t.left()
}

// line holds the numbers of columns, but only those that aren't nought, the columns rising: most of them are nought.
type line []entry

type entry struct {
	column int
	number float64
}

// with gives the line with the number of one more column, behind all that it has.
func (l line) with(column int, number float64) line {
	if number == 0 {
		return l
	}
	return append(l, entry{column, number})
}

// at gives a column's number; of what is no column, too, it is 0.
func (l line) at(column int) float64 {
	k, found := slices.BinarySearchFunc(l, column, func(e entry, column int) int { return cmp.Compare(e.column, column) })
	if !found {
		return 0
	}
	return l[k].number
}

// divide divides all numbers, in place.
func (l line) divide(by float64) {
	for k := range l {
		l[k].number /= by
	}
}

// less gives what is left if another line is taken away so many times.
func (l line) less(other line, times float64) line {
	left := make(line, 0, max(len(l), len(other)))
	for len(l) > 0 || len(other) > 0 {
		switch {
		case len(other) == 0 || len(l) > 0 && l[0].column < other[0].column:
			left, l = append(left, l[0]), l[1:]
		case len(l) == 0 || other[0].column < l[0].column:
			left = left.with(other[0].column, takenAway(0, other[0].number, times))
			other = other[1:]
		default:
			left = left.with(l[0].column, takenAway(l[0].number, other[0].number, times))
			l, other = l[1:], other[1:]
		}
	}
	return left
}

package board

import (
	"cmp"
	"slices"

	"vertex/api"
	"vertex/rat"
)

// line holds the numbers of columns, but only those that aren't nought, the columns rising: most of a board's numbers are nought.
type line []entry

type entry struct {
	column int
	number api.Rat
}

// with gives the line with the number of one more column, behind all that it has.
func (l line) with(column int, number api.Rat) line {
	if rat.Sign(number) == 0 {
		return l
	}
	return append(l, entry{column, number})
}

// at gives a column's number, to be looked at only; of what is no column, too, it is 0.
func (l line) at(column int) api.Rat {
	k, found := slices.BinarySearchFunc(l, column, func(e entry, column int) int { return cmp.Compare(e.column, column) })
	if !found {
		return api.Rat{}
	}
	return l[k].number
}

// multiply multiplies all numbers by one that isn't nought, in place.
func (l line) multiply(factor api.Rat) {
	for k := range l {
		l[k].number = rat.Mul(l[k].number, factor)
	}
}

// less gives what is left if another line is taken away so many times.
func (l line) less(other line, times api.Rat) line {
	left := make(line, 0, max(len(l), len(other)))
	for len(l) > 0 || len(other) > 0 {
		switch {
		case len(other) == 0 || len(l) > 0 && l[0].column < other[0].column:
			left, l = append(left, l[0]), l[1:]
		case len(l) == 0 || other[0].column < l[0].column:
			left = left.with(other[0].column, takenAway(api.Rat{}, other[0].number, times))
			other = other[1:]
		default:
			left = left.with(l[0].column, takenAway(l[0].number, other[0].number, times))
			l, other = l[1:], other[1:]
		}
	}
	return left
}

// takenAway gives a less b so many times.
func takenAway(a, b, times api.Rat) api.Rat { return rat.Sub(a, rat.Mul(b, times)) }

// copied gives a line that may be changed without this one. The limbs are not copied, as a number's limbs are never written over.
func (l line) copied() line {
	c := make(line, len(l))
	copy(c, l)
	return c
}

package board

import (
	"vertex/api"
	"vertex/rat"
)

// row is a row of the board: an equation of its columns.
type row struct {
	numbers line
	right   api.Rat
	basic   int // the column; none, if the row is gone
	turned  bool
}

// firstRow gives the row of an equation of the standard, as it is at the beginning: P11.1.
func firstRow(numbers []api.Rat, right api.Rat, artificial int) row {
	turned := rat.Sign(right) < 0
	inSense := rat.Norm
	if turned {
		inSense = rat.Neg
	}
	var l line
	for j, a := range numbers {
		l = l.with(j, inSense(a))
	}
	return row{numbers: l.with(artificial, rat.Of(1)), right: inSense(right), basic: artificial, turned: turned}
}

func (r *row) isGone() bool { return r.basic == none }

// multiply multiplies the whole equation by a number that isn't nought.
func (r *row) multiply(factor api.Rat) {
	r.numbers.multiply(factor)
	r.right = rat.Mul(r.right, factor)
}

// clearColumn takes another row, which has 1 in a column, away so often that this one has 0 there.
func (r *row) clearColumn(column int, other row) {
	times := r.numbers.at(column)
	if rat.Sign(times) == 0 {
		return
	}
	r.numbers = r.numbers.less(other.numbers, times)
	r.right = takenAway(r.right, other.right, times)
}

// copied gives a row that may be changed without this one.
func (r row) copied() row {
	r.numbers = r.numbers.copied()
	return r
}

package warm

import (
	"vertex/api"
	"vertex/board"
	"vertex/rat"
)

// place is Place, and tells how many pivots it made.
func place(s api.Standard, basis []int) (b *board.Board, pivots int, isWhole bool) {
	b = board.New(s)
	pivots = bringIn(b, basis)
	more, isWhole := fillUp(b)
	return b, pivots + more, isWhole
}

// bringIn brings columns into the basis, as far as it can, and tells how many it brought in: P16.1.
func bringIn(b *board.Board, columns []int) (pivots int) {
	for _, j := range columns {
		if i := rowFor(b, j); i != none {
			// No error: there is such a row, and its number isn't nought.
			b.Pivot(i, j)
			pivots++
		}
	}
	return pivots
}

// rowFor gives the least row that is still held and can take a column of the standard; none, if there is none, or no such column. A basic column finds none: it has noughts in all rows but its own.
func rowFor(b *board.Board, column int) int {
	if column < 0 || column >= own(b) {
		return none
	}
	for i, basic := range b.Basis() {
		if basic >= own(b) && rat.Sign(b.At(i, column)) != 0 {
			return i
		}
	}
	return none
}

// fillUp takes the artificial columns out of the rows that they still hold. It tells how many pivots it made, and false, if it came to a row that nothing can meet: P16.2.
func fillUp(b *board.Board) (pivots int, isWhole bool) {
	for i, basic := range b.Basis() {
		if basic < own(b) {
			continue
		}
		// No error in either case: the row is there, and its number isn't nought.
		switch j := firstColumn(b, i); {
		case j != none:
			b.Pivot(i, j)
			pivots++
		case rat.Sign(b.Right(i)) == 0:
			b.Drop(i)
		default:
			return pivots, false
		}
	}
	return pivots, true
}

// firstColumn gives the least column of the standard in which a row's number isn't nought; none, if there is none.
func firstColumn(b *board.Board, i int) int {
	for j := range own(b) {
		if rat.Sign(b.At(i, j)) != 0 {
			return j
		}
	}
	return none
}

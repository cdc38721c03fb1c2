package climb

import (
	"vertex/api"
	"vertex/board"
	"vertex/rat"
)

// point gives the point of the basis: what its columns come to, and 0 at all others.
func point(b *board.Board) []api.Rat {
	return inBasis(b, b.Right)
}

// ray gives the direction in which a column that isn't basic grows, and all rows still hold.
func ray(b *board.Board, column int) []api.Rat {
	l := inBasis(b, func(i int) api.Rat { return rat.Neg(b.At(i, column)) })
	l[column] = rat.Of(1)
	return l
}

// inBasis gives a number for each column, artificial ones aside: that of the row in which it is basic, 0, if it isn't.
func inBasis(b *board.Board, number func(row int) api.Rat) []api.Rat {
	l := make([]api.Rat, own(b))
	for j := range l {
		l[j] = rat.Of(0)
	}
	for i, j := range b.Basis() {
		if j != none {
			l[j] = number(i)
		}
	}
	return l
}

// multipliers gives the multiplier of each row, those that are gone too.
func multipliers(b *board.Board) []api.Rat {
	l := make([]api.Rat, b.Rows())
	for i := range l {
		l[i] = b.Mult(i)
	}
	return l
}

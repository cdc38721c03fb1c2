package warm

import (
	"vertex/api"
	"vertex/board"
	"vertex/rat"
)

// dual solves a standard from a board of it on, whose reduced costs are not below nought, behind so many pivots of Place: P16.5, P16.6.
func dual(b *board.Board, s api.Standard, placed int) api.Outcome {
	stuck, descended := descend(b)
	if stuck == none {
		return upwards(b, s, placed, descended)
	}
	return api.Outcome{Verdict: api.Infeasible, Mult: contradiction(b, stuck), Pivots: [3]int{placing: placed, dualWay: descended}}
}

// descend goes the dual way till no right side is below nought. It gives the row in which no column can enter, or none, and how many pivots it made.
func descend(b *board.Board) (stuck, pivots int) {
	for i := leastBelow(b); i != none; i = leastBelow(b) {
		j := dualEnter(b, i)
		if j == none {
			return i, pivots
		}
		// No error: there is such a row, and its number is below nought.
		b.Pivot(i, j)
		pivots++
	}
	return none, pivots
}

// leastBelow gives, of the rows that are there with a right side below nought, the one with the least basic column; none, if there is none.
func leastBelow(b *board.Board) int {
	basis, found := b.Basis(), none
	for i, basic := range basis {
		if basic == none || rat.Sign(b.Right(i)) >= 0 {
			continue
		}
		if found == none || basic < basis[found] {
			found = i
		}
	}
	return found
}

// dualEnter gives the column that enters in a row so that no reduced cost falls below nought; none, if there is none. Basic columns aren't below nought in any row.
func dualEnter(b *board.Board, row int) int {
	found := none
	var least api.Rat
	for j := range own(b) {
		a := b.At(row, j)
		if rat.Sign(a) >= 0 {
			continue
		}
		// No error: a isn't nought.
		ratio, _ := rat.Quo(b.Reduced(j), rat.Neg(a))
		if found == none || rat.Cmp(ratio, least) < 0 {
			found, least = j, ratio
		}
	}
	return found
}

// contradiction gives multipliers of the standard's rows by which no point meets them: a row of the board, whose numbers aren't below nought and whose right side is, says so, and its artificial columns tell of which rows it is made.
func contradiction(b *board.Board, row int) []api.Rat {
	l := make([]api.Rat, b.Rows())
	for k := range l {
		l[k] = b.At(row, own(b)+k)
		if !b.Turned(k) {
			l[k] = rat.Neg(l[k])
		}
	}
	return l
}

package climb

import (
	"slices"

	"vertex/api"
	"vertex/board"
	"vertex/rat"
)

// beginning is an outcome ahead of the first pivot.
func beginning(b *board.Board) api.Outcome {
	return api.Outcome{Trail: [][]int{basisAsTold(b)}}
}

// noting gives what notes a pivot of one part of the way in an outcome.
func noting(b *board.Board, o *api.Outcome, part int) func() {
	return func() {
		o.Pivots[part]++
		o.Trail = append(o.Trail, basisAsTold(b))
	}
}

// basisAsTold gives the basic columns of the rows that are there, rising.
func basisAsTold(b *board.Board) []int {
	basis := slices.DeleteFunc(b.Basis(), func(j int) bool { return j == none })
	slices.Sort(basis)
	return basis
}

// rise pivots by Bland's rule as long as it can. It gives the column that should enter, if no row is left for it; none, if no column enters.
func rise(b *board.Board, note func()) int {
	var j int
way:
	for {
		j = b.Enter(own(b))
		i := b.Leave(j)
		switch {
		case j == none, i == none:
			break way
		default:
			// No error: there is such a row, and its number is above nought.
			b.Pivot(i, j)
			note()
		}
	}
	return j
}

// driveOut takes the artificial columns that phase 1 has left out of the basis: P12.3.
func driveOut(b *board.Board, note func()) {
	for i, basic := range b.Basis() {
		if basic < own(b) {
			continue
		}
		// No error in either case: the row is there, and its number isn't nought.
		if j := firstColumn(b, i); j != none {
			b.Pivot(i, j)
			note()
		} else {
			b.Drop(i)
		}
	}
}

// firstColumn gives the least column, artificial ones aside, in which a row's number isn't nought; none, if there is none.
func firstColumn(b *board.Board, i int) int {
	for j := range own(b) {
		if rat.Sign(b.At(i, j)) != 0 {
			return j
		}
	}
	return none
}

package span

import (
	"slices"

	"vertex/api"
	"vertex/board"
	"vertex/rat"
	"vertex/warm"
)

// none stands for a place where there is nothing.
const none = -1

// placed gives the board of a standard and a list, with the standard's costs; ErrState, if the list is no state.
func placed(s api.Standard, basis []int) (*board.Board, error) {
	b, isWhole := warm.Place(s, basis)
	if !isWhole {
		return nil, api.ErrState
	}
	b.Cost(s.C)
	if !slices.Equal(held(b), columnsOf(b, basis)) || isBelow(b) || b.Enter(own(b)) != none {
		return nil, api.ErrState
	}
	return b, nil
}

// own tells how many columns of a board are not artificial.
func own(b *board.Board) int { return b.Cols() - b.Rows() }

// rowOf gives the row in which a column is basic; none, if it isn't.
func rowOf(b *board.Board, column int) int { return slices.Index(b.Basis(), column) }

// held gives a board's basic columns, rising.
func held(b *board.Board) []int {
	return ordered(b.Basis(), func(j int) bool { return j != none })
}

// columnsOf gives those numbers of a list that are the standard's columns, rising, each of them once.
func columnsOf(b *board.Board, list []int) []int {
	return ordered(list, func(j int) bool { return 0 <= j && j < own(b) })
}

// ordered gives those numbers of a list that count, rising, each of them once.
func ordered(list []int, counts func(j int) bool) []int {
	var l []int
	for _, j := range list {
		if counts(j) {
			l = append(l, j)
		}
	}
	slices.Sort(l)
	return slices.Compact(l)
}

// isBelow tells whether a row that is there has its right side below nought.
func isBelow(b *board.Board) bool {
	for i, basic := range b.Basis() {
		if basic != none && rat.Sign(b.Right(i)) < 0 {
			return true
		}
	}
	return false
}

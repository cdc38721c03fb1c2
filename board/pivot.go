package board

import (
	"vertex/api"
	"vertex/rat"
)

// Enter gives the column that enters; -1: none: P11.5.
func (b *Board) Enter(n int) int {
	for j := range min(n, b.Cols()) {
		if !b.isBasic(j) && rat.Sign(b.Reduced(j)) < 0 {
			return j
		}
	}
	return none
}

// Leave gives the row that is left, if a column enters; -1: none: P11.6.
func (b *Board) Leave(j int) int {
	found := none
	var least api.Rat
	for i, r := range b.rows {
		a := r.numbers.at(j)
		if r.isGone() || rat.Sign(a) <= 0 {
			continue
		}
		// No error: a is above nought.
		ratio, _ := rat.Quo(r.right, a)
		order := rat.Cmp(ratio, least)
		if found == none || order < 0 || order == 0 && r.basic < b.rows[found].basic {
			found, least = i, ratio
		}
	}
	return found
}

// Pivot brings a column into the basis in a row: P11.7.
func (b *Board) Pivot(i, j int) error {
	if !b.isThere(i) || !b.isColumn(j) {
		return api.ErrArg
	}
	factor, err := rat.Inv(b.rows[i].numbers.at(j))
	if err != nil {
		return api.ErrPivot
	}
	b.rows[i].multiply(factor)
	for k := range b.rows {
		if k != i {
			b.rows[k].clearColumn(j, b.rows[i])
		}
	}
	b.rows[i].basic = j
	return nil
}

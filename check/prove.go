package check

import (
	"slices"

	"vertex/api"
	"vertex/rat"
)

// Prove tells what multipliers prove of the value: P14.1.
func Prove(p api.Problem, y []api.Rat) (api.Rat, error) {
	if len(y) != len(p.Rows) {
		return api.Rat{}, api.ErrShape
	}
	multipliers := slices.Concat(y, left(p, y))
	parts := []api.Rat{p.Const}
	proves := all(p, func(place int, lo, hi api.Bound) bool {
		multiplier := multipliers[place]
		sign := rat.Sign(multiplier)
		if sign == 0 {
			return true
		}
		// Of a Max problem all numbers are negated, and the sum of them again: that leaves no trace but which bound is asked for.
		bound := hi
		if sign > 0 != p.Max {
			bound = lo
		}
		parts = append(parts, rat.Mul(multiplier, bound.At))
		return bound.Has
	})
	if !proves {
		return api.Rat{}, api.ErrBound
	}
	return rat.Sum(parts...), nil
}

// left gives what is left of each variable's Obj, with a multiplier for each row.
func left(p api.Problem, y []api.Rat) []api.Rat {
	rest := make([]api.Rat, len(p.Vars))
	for j, v := range p.Vars {
		rest[j] = v.Obj
	}
	for i, row := range p.Rows {
		for _, term := range row.Terms {
			if 0 <= term.Var && term.Var < len(rest) {
				rest[term.Var] = rat.Sub(rest[term.Var], rat.Mul(y[i], term.Coef))
			}
		}
	}
	return rest
}

// all tells whether the bounds of each row, and then those of each variable, are as it is asked. Places are counted through: the first variable's is the one behind the last row's.
func all(p api.Problem, ask func(place int, lo, hi api.Bound) bool) bool {
	for i, row := range p.Rows {
		if !ask(i, row.Lo, row.Hi) {
			return false
		}
	}
	for j, v := range p.Vars {
		if !ask(len(p.Rows)+j, v.Lo, v.Hi) {
			return false
		}
	}
	return true
}

package model

import (
	"vertex/api"
	"vertex/rat"
)

// Value tells the objective at a point: P7.7.
func Value(p api.Problem, x []api.Rat) api.Rat {
	parts := []api.Rat{p.Const}
	for i, number := range known(p, x) {
		parts = append(parts, rat.Mul(p.Vars[i].Obj, number))
	}
	return rat.Sum(parts...)
}

// Sums tells what the rows come to at a point: P7.7.
func Sums(p api.Problem, x []api.Rat) []api.Rat {
	x = known(p, x)
	var sums []api.Rat
	for _, row := range p.Rows {
		var parts []api.Rat
		for _, term := range row.Terms {
			// What lies outside is a term of no variable, or of one whose number is missing: nought, either way.
			if 0 <= term.Var && term.Var < len(x) {
				parts = append(parts, rat.Mul(term.Coef, x[term.Var]))
			}
		}
		sums = append(sums, rat.Sum(parts...))
	}
	return sums
}

// known gives those numbers of a list that are variables', without those that are too many; the missing ones stay away.
func known(p api.Problem, x []api.Rat) []api.Rat { return x[:min(len(x), len(p.Vars))] }

// Holds tells whether a point meets all rows and bounds: P7.8.
func Holds(p api.Problem, x []api.Rat) bool {
	if len(x) != len(p.Vars) {
		return false
	}
	for i, v := range p.Vars {
		if !within(x[i], v.Lo, v.Hi) {
			return false
		}
	}
	for i, sum := range Sums(p, x) {
		if !within(sum, p.Rows[i].Lo, p.Rows[i].Hi) {
			return false
		}
	}
	return true
}

// within tells whether a number keeps to those of two bounds that are there.
func within(a api.Rat, lo, hi api.Bound) bool {
	below := lo.Has && rat.Cmp(a, lo.At) < 0
	above := hi.Has && rat.Cmp(a, hi.At) > 0
	return !below && !above
}

// Whole tells whether a point is whole where it must be: P7.9.
func Whole(p api.Problem, x []api.Rat) bool {
	if len(x) != len(p.Vars) {
		return false
	}
	for i, v := range p.Vars {
		if v.Whole && !rat.IsWhole(x[i]) {
			return false
		}
	}
	return true
}

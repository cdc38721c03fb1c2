package trim_test

import (
	"math/big"
	"slices"

	"vertex/api"
)

// lines are the bounds of all variables, and then of all rows.
func lines(p api.Problem) (l []ends) {
	for _, v := range p.Vars {
		l = append(l, endsOf(v.Lo, v.Hi))
	}
	for _, row := range p.Rows {
		l = append(l, endsOf(row.Lo, row.Hi))
	}
	return l
}

// valuesOf are what all variables, and then all rows, come to at a point, or along a ray.
func valuesOf(p api.Problem, x []api.Rat) (l []*big.Rat) {
	for j := range p.Vars {
		l = append(l, toBig(x[j]))
	}
	for _, row := range p.Rows {
		sum := new(big.Rat)
		for j, coef := range coefsOf(p, row) {
			sum = plus(sum, times(coef, toBig(x[j])))
		}
		l = append(l, sum)
	}
	return l
}

// objectiveAt is what the objective comes to at a point, or along a ray, without Const.
func objectiveAt(p api.Problem, x []api.Rat) *big.Rat {
	sum := new(big.Rat)
	for j, v := range p.Vars {
		sum = plus(sum, times(toBig(v.Obj), toBig(x[j])))
	}
	return sum
}

// valueAt is what the objective comes to at a point.
func valueAt(p api.Problem, x []api.Rat) *big.Rat { return plus(toBig(p.Const), objectiveAt(p, x)) }

// isPoint tells whether a list is a point that holds.
func isPoint(p api.Problem, x []api.Rat) bool {
	if len(x) != len(p.Vars) {
		return false
	}
	values := valuesOf(p, x)
	for k, e := range lines(p) {
		if e.lo != nil && values[k].Cmp(e.lo) < 0 || e.hi != nil && values[k].Cmp(e.hi) > 0 {
			return false
		}
	}
	return true
}

// proven is what multipliers prove, of a Min problem the least, of a Max one the greatest value that there can be; nil: nothing.
func proven(p api.Problem, y []api.Rat) *big.Rat {
	rest, multipliers := make([]*big.Rat, len(p.Vars)), make([]*big.Rat, len(p.Rows))
	for j, v := range p.Vars {
		rest[j] = toBig(v.Obj)
	}
	for i, row := range p.Rows {
		multipliers[i] = toBig(y[i])
		for j, coef := range coefsOf(p, row) {
			rest[j] = minus(rest[j], times(multipliers[i], coef))
		}
	}
	sum, all := toBig(p.Const), slices.Concat(rest, multipliers)
	for k, e := range lines(p) {
		sign := all[k].Sign()
		end := e.hi
		if sign > 0 != p.Max {
			end = e.lo
		}
		if sign == 0 {
			continue
		}
		if end == nil {
			return nil
		}
		sum = plus(sum, times(all[k], end))
	}
	return sum
}

// noObjective is the Min problem with the same rows and bounds, Const and Objs 0.
func noObjective(p api.Problem) api.Problem {
	p.Max, p.Const, p.Vars = false, api.Rat{}, slices.Clone(p.Vars)
	for j := range p.Vars {
		p.Vars[j].Obj = api.Rat{}
	}
	return p
}

// isProof tells whether a certificate proves its verdict of a problem, reckoned from the problem's own rows and bounds.
func isProof(p api.Problem, c api.Cert) bool {
	switch c.Verdict {
	case api.Optimal:
		value := toBig(c.Value)
		if !isPoint(p, c.X) || len(c.Y) != len(p.Rows) || valueAt(p, c.X).Cmp(value) != 0 {
			return false
		}
		end := proven(p, c.Y)
		return end != nil && end.Cmp(value) == 0
	case api.Infeasible:
		if len(c.Y) != len(p.Rows) {
			return false
		}
		if slices.ContainsFunc(lines(p), ends.areCrossed) {
			return true
		}
		least := proven(noObjective(p), c.Y)
		return least != nil && least.Sign() > 0
	case api.Unbounded:
		return isPoint(p, c.X) && len(c.Ray) == len(p.Vars) && isRay(p, c.Ray)
	}
	return false
}

// isRay tells whether nothing meets a bound along a ray, and the objective becomes better.
func isRay(p api.Problem, ray []api.Rat) bool {
	along := valuesOf(p, ray)
	for k, e := range lines(p) {
		if e.lo != nil && along[k].Sign() < 0 || e.hi != nil && along[k].Sign() > 0 {
			return false
		}
	}
	growth := objectiveAt(p, ray).Sign()
	return p.Max && growth > 0 || !p.Max && growth < 0
}

// isBetter tells whether a value is better than another one.
func isBetter(p api.Problem, a, than *big.Rat) bool {
	if p.Max {
		return a.Cmp(than) > 0
	}
	return a.Cmp(than) < 0
}

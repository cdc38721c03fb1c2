package span_test

import (
	"math/big"
	"slices"

	"vertex/api"
)

// lines are the bounds of all variables, and then of all rows.
func lines(p api.Problem) (l []reach) {
	add := func(lo, hi api.Bound) {
		var r reach
		if lo.Has {
			r.lo = toBig(lo.At)
		}
		if hi.Has {
			r.hi = toBig(hi.At)
		}
		l = append(l, r)
	}
	for _, v := range p.Vars {
		add(v.Lo, v.Hi)
	}
	for _, row := range p.Rows {
		add(row.Lo, row.Hi)
	}
	return l
}

func (r reach) areCrossed() bool { return r.lo != nil && r.hi != nil && r.lo.Cmp(r.hi) > 0 }

// valuesOf are what all variables, and then all rows, come to at a point, or along a ray.
func valuesOf(p api.Problem, x []api.Rat) (l []*big.Rat) {
	for j := range p.Vars {
		l = append(l, toBig(x[j]))
	}
	for _, row := range p.Rows {
		l = append(l, dot(coefsOf(p, row), l[:len(p.Vars)]))
	}
	return l
}

// objectiveAt is what the objective comes to at a point, or along a ray, without Const.
func objectiveAt(p api.Problem, x []api.Rat) *big.Rat {
	sum := whole(0)
	for j, v := range p.Vars {
		sum = plus(sum, times(toBig(v.Obj), toBig(x[j])))
	}
	return sum
}

// valueAt is what the objective comes to at a point.
func valueAt(p api.Problem, x []api.Rat) *big.Rat { return plus(toBig(p.Const), objectiveAt(p, x)) }

// isPoint tells whether a list is a point that holds.
func isPoint(p api.Problem, x []api.Rat) bool {
	if len(x) != len(p.Vars) {
		return false
	}
	values := valuesOf(p, x)
	for k, r := range lines(p) {
		if !r.has(values[k]) {
			return false
		}
	}
	return true
}

// proven is what multipliers prove, of a Min problem the least, of a Max one the greatest value that there can be; nil: nothing.
func proven(p api.Problem, y []api.Rat) *big.Rat {
	rest, multipliers := make([]*big.Rat, len(p.Vars)), make([]*big.Rat, len(p.Rows))
	for j, v := range p.Vars {
		rest[j] = toBig(v.Obj)
	}
	for i, row := range p.Rows {
		multipliers[i] = toBig(y[i])
		for j, coef := range coefsOf(p, row) {
			rest[j] = minus(rest[j], times(multipliers[i], coef))
		}
	}
	sum, all := toBig(p.Const), slices.Concat(rest, multipliers)
	for k, r := range lines(p) {
		sign := all[k].Sign()
		end := r.hi
		if sign > 0 != p.Max {
			end = r.lo
		}
		if sign == 0 {
			continue
		}
		if end == nil {
			return nil
		}
		sum = plus(sum, times(all[k], end))
	}
	return sum
}

// noObjective is the Min problem with the same rows and bounds, Const and Objs 0.
func noObjective(p api.Problem) api.Problem {
	p.Max, p.Const, p.Vars = false, api.Rat{}, slices.Clone(p.Vars)
	for j := range p.Vars {
		p.Vars[j].Obj = api.Rat{}
	}
	return p
}

// isProof tells whether a certificate proves its verdict of a problem, reckoned from the problem's own rows and bounds.
func isProof(p api.Problem, c api.Cert) bool {
	switch c.Verdict {
	case api.Optimal:
		value := toBig(c.Value)
		if !isPoint(p, c.X) || len(c.Y) != len(p.Rows) || valueAt(p, c.X).Cmp(value) != 0 {
			return false
		}
		end := proven(p, c.Y)
		return end != nil && end.Cmp(value) == 0
	case api.Infeasible:
		if len(c.Y) != len(p.Rows) {
			return false
		}
		if slices.ContainsFunc(lines(p), reach.areCrossed) {
			return true
		}
		least := proven(noObjective(p), c.Y)
		return least != nil && least.Sign() > 0
	case api.Unbounded:
		return isPoint(p, c.X) && len(c.Ray) == len(p.Vars) && isRay(p, c.Ray)
	}
	return false
}

// isRay tells whether nothing meets a bound along a ray, and the objective becomes better.
func isRay(p api.Problem, ray []api.Rat) bool {
	along := valuesOf(p, ray)
	for k, r := range lines(p) {
		if r.lo != nil && along[k].Sign() < 0 || r.hi != nil && along[k].Sign() > 0 {
			return false
		}
	}
	growth := objectiveAt(p, ray).Sign()
	return p.Max && growth > 0 || !p.Max && growth < 0
}

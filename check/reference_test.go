package check_test

import (
	"math/big"
	"slices"

	"vertex/api"
)

// both are the bounds of a row or of a variable: the two are alike in having them.
type both struct{ lo, hi api.Bound }

func (b both) isCrossed() bool {
	return b.lo.Has && b.hi.Has && toBig(b.lo.At).Cmp(toBig(b.hi.At)) > 0
}

func (b both) isKept(n *big.Rat) bool {
	return !(b.lo.Has && n.Cmp(toBig(b.lo.At)) < 0) && !(b.hi.Has && n.Cmp(toBig(b.hi.At)) > 0)
}

// boundsOf are those of all variables, and then of all rows.
func boundsOf(p api.Problem) (l []both) {
	for _, v := range p.Vars {
		l = append(l, both{v.Lo, v.Hi})
	}
	for _, row := range p.Rows {
		l = append(l, both{row.Lo, row.Hi})
	}
	return l
}

// setBounds sets those at a place of boundsOf.
func setBounds(p api.Problem, place int, b both) {
	if place < len(p.Vars) {
		p.Vars[place].Lo, p.Vars[place].Hi = b.lo, b.hi
		return
	}
	row := &p.Rows[place-len(p.Vars)]
	row.Lo, row.Hi = b.lo, b.hi
}

// coefOf is a variable's coefficient in a row: all its terms together.
func coefOf(row api.Row, variable int) *big.Rat {
	sum := new(big.Rat)
	for _, term := range row.Terms {
		if term.Var == variable {
			sum = plus(sum, toBig(term.Coef))
		}
	}
	return sum
}

// valuesOf are what all variables, and then all rows, come to at a point, or along a ray.
func valuesOf(p api.Problem, x []api.Rat) (l []*big.Rat) {
	for j := range p.Vars {
		l = append(l, toBig(x[j]))
	}
	for _, row := range p.Rows {
		sum := new(big.Rat)
		for j := range p.Vars {
			sum = plus(sum, times(coefOf(row, j), toBig(x[j])))
		}
		l = append(l, sum)
	}
	return l
}

// objectiveAt is what the objective comes to at a point, or along a ray, without Const.
func objectiveAt(p api.Problem, x []api.Rat) *big.Rat {
	sum := new(big.Rat)
	for j, v := range p.Vars {
		sum = plus(sum, times(toBig(v.Obj), toBig(x[j])))
	}
	return sum
}

// valueAt is what the objective comes to at a point.
func valueAt(p api.Problem, x []api.Rat) *big.Rat { return plus(toBig(p.Const), objectiveAt(p, x)) }

// isPoint tells whether a list with a number for each variable holds.
func isPoint(p api.Problem, x []api.Rat) bool {
	values := valuesOf(p, x)
	for k, b := range boundsOf(p) {
		if !b.isKept(values[k]) {
			return false
		}
	}
	return true
}

// multipliersOf are what is left of the variables, and then the rows' own.
func multipliersOf(p api.Problem, y []api.Rat) (l []*big.Rat) {
	for j, v := range p.Vars {
		rest := toBig(v.Obj)
		for i, row := range p.Rows {
			rest = minus(rest, times(toBig(y[i]), coefOf(row, j)))
		}
		l = append(l, rest)
	}
	for i := range p.Rows {
		l = append(l, toBig(y[i]))
	}
	return l
}

func turned(a api.Rat) api.Rat { return fromBig(turn(toBig(a))) }

func turnedAll(l []api.Rat) (turnedOnes []api.Rat) {
	for _, a := range l {
		turnedOnes = append(turnedOnes, turned(a))
	}
	return turnedOnes
}

// otherSense is the same problem with Max and Min changed, Const and Objs negated.
func otherSense(p api.Problem) api.Problem {
	p.Max, p.Const, p.Vars = !p.Max, turned(p.Const), slices.Clone(p.Vars)
	for j := range p.Vars {
		p.Vars[j].Obj = turned(p.Vars[j].Obj)
	}
	return p
}

// noObjective is the Min problem with the same rows and bounds, Const and Objs 0.
func noObjective(p api.Problem) api.Problem {
	p.Max, p.Const, p.Vars = false, api.Rat{}, slices.Clone(p.Vars)
	for j := range p.Vars {
		p.Vars[j].Obj = api.Rat{}
	}
	return p
}

// secondProve is what Prove is to answer, by P14.1's words.
func secondProve(p api.Problem, y []api.Rat) (*big.Rat, error) {
	if len(y) != len(p.Rows) {
		return nil, api.ErrShape
	}
	if p.Max {
		sum, err := secondProve(otherSense(p), turnedAll(y))
		if err != nil {
			return nil, err
		}
		return turn(sum), nil
	}
	sum, multipliers := toBig(p.Const), multipliersOf(p, y)
	for k, b := range boundsOf(p) {
		switch sign := multipliers[k].Sign(); {
		case sign > 0 && b.lo.Has:
			sum = plus(sum, times(multipliers[k], toBig(b.lo.At)))
		case sign < 0 && b.hi.Has:
			sum = plus(sum, times(multipliers[k], toBig(b.hi.At)))
		case sign != 0:
			return nil, api.ErrBound
		}
	}
	return sum, nil
}

// secondCheck is what Check is to answer, by P14.4's words.
func secondCheck(p api.Problem, c api.Cert) error {
	switch c.Verdict {
	case api.Optimal:
		return secondOptimal(p, c)
	case api.Infeasible:
		return secondInfeasible(p, c)
	case api.Unbounded:
		return secondUnbounded(p, c)
	}
	return api.ErrVerdict
}

func secondOptimal(p api.Problem, c api.Cert) error {
	if len(c.X) != len(p.Vars) || len(c.Y) != len(p.Rows) {
		return api.ErrShape
	}
	if !isPoint(p, c.X) {
		return api.ErrPoint
	}
	if valueAt(p, c.X).Cmp(toBig(c.Value)) != 0 {
		return api.ErrValue
	}
	proven, err := secondProve(p, c.Y)
	if err == nil && proven.Cmp(toBig(c.Value)) != 0 {
		return api.ErrBound
	}
	return err
}

func secondInfeasible(p api.Problem, c api.Cert) error {
	if len(c.Y) != len(p.Rows) {
		return api.ErrShape
	}
	if slices.ContainsFunc(boundsOf(p), both.isCrossed) {
		return nil
	}
	proven, err := secondProve(noObjective(p), c.Y)
	if err == nil && proven.Sign() <= 0 {
		return api.ErrBound
	}
	return err
}

func secondUnbounded(p api.Problem, c api.Cert) error {
	if len(c.X) != len(p.Vars) || len(c.Ray) != len(p.Vars) {
		return api.ErrShape
	}
	if !isPoint(p, c.X) {
		return api.ErrPoint
	}
	along := valuesOf(p, c.Ray)
	for k, b := range boundsOf(p) {
		if b.lo.Has && along[k].Sign() < 0 || b.hi.Has && along[k].Sign() > 0 {
			return api.ErrRay
		}
	}
	if growth := objectiveAt(p, c.Ray).Sign(); p.Max && growth <= 0 || !p.Max && growth >= 0 {
		return api.ErrRay
	}
	return nil
}

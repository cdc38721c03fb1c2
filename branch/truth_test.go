package branch_test

import (
	"math/big"
	"strings"

	"vertex/api"
)

// atMost is a condition: the sum of its coefficients times the variables is not above its end. The last variable is the objective's value, without Const.
type atMost struct {
	coefs []*big.Rat
	end   *big.Rat
}

// add gives the sum of two conditions, the second one taken so often.
func (c atMost) add(other atMost, often *big.Rat) atMost {
	sum := atMost{end: plus(c.end, times(often, other.end))}
	for k := range c.coefs {
		sum.coefs = append(sum.coefs, plus(c.coefs[k], times(often, other.coefs[k])))
	}
	return sum
}

// scaled gives a condition taken so often.
func (c atMost) scaled(often *big.Rat) atMost {
	return c.add(c, minus(often, big.NewRat(1, 1)))
}

// conditionsOf are all that a problem's rows and bounds say, and what the objective's value is.
func conditionsOf(p api.Problem) (l []atMost) {
	say := func(coefs []*big.Rat, b both) {
		if b.hi.Has {
			l = append(l, atMost{coefs, toBig(b.hi.At)})
		}
		if b.lo.Has {
			l = append(l, atMost{coefs, toBig(b.lo.At)}.scaled(big.NewRat(-1, 1)))
		}
	}
	empty := func() (coefs []*big.Rat) {
		for range len(p.Vars) + 1 {
			coefs = append(coefs, new(big.Rat))
		}
		return coefs
	}
	for j, v := range p.Vars {
		coefs := empty()
		coefs[j] = big.NewRat(1, 1)
		say(coefs, both{v.Lo, v.Hi})
	}
	for _, row := range p.Rows {
		coefs := empty()
		for j := range p.Vars {
			coefs[j] = coefOf(row, j)
		}
		say(coefs, both{row.Lo, row.Hi})
	}
	coefs := empty()
	for j, v := range p.Vars {
		coefs[j] = toBig(v.Obj)
	}
	coefs[len(p.Vars)] = big.NewRat(-1, 1)
	say(coefs, both{has("0"), has("0")})
	return l
}

// without are conditions that say of the other variables what these say, but nothing of one (Fourier's elimination): each that bounds it above is held against each that bounds it below.
func without(l []atMost, variable int) []atMost {
	var above, below, rest []atMost
	for _, c := range l {
		switch c.coefs[variable].Sign() {
		case 1:
			above = append(above, c.scaled(new(big.Rat).Inv(c.coefs[variable])))
		case -1:
			below = append(below, c.scaled(turn(new(big.Rat).Inv(c.coefs[variable]))))
		default:
			rest = append(rest, c)
		}
	}
	for _, a := range above {
		for _, b := range below {
			rest = append(rest, a.add(b, big.NewRat(1, 1)))
		}
	}
	return tightest(rest)
}

// tightest leaves out conditions that another one says too, or more.
func tightest(l []atMost) (kept []atMost) {
	place := map[string]int{}
	for _, c := range l {
		for _, a := range c.coefs {
			if a.Sign() != 0 {
				c = c.scaled(new(big.Rat).Inv(new(big.Rat).Abs(a)))
				break
			}
		}
		var key strings.Builder
		for _, a := range c.coefs {
			key.WriteString(a.RatString() + " ")
		}
		k, ok := place[key.String()]
		if !ok {
			place[key.String()] = len(kept)
			kept = append(kept, c)
		} else if c.end.Cmp(kept[k].end) < 0 {
			kept[k] = c
		}
	}
	return kept
}

// eliminated tells a problem's verdict and its value, whole variables taken as any, by eliminating all variables but the objective's value: neither multipliers nor rays have to do with it.
func eliminated(p api.Problem) (verdict int, value *big.Rat) {
	l := conditionsOf(p)
	for j := range p.Vars {
		l = without(l, j)
	}
	var lo, hi *big.Rat
	for _, c := range l {
		switch a := c.coefs[len(p.Vars)]; a.Sign() {
		case 0:
			if c.end.Sign() < 0 {
				return api.Infeasible, nil
			}
		case 1:
			if end := by(c.end, a); hi == nil || end.Cmp(hi) < 0 {
				hi = end
			}
		case -1:
			if end := by(c.end, a); lo == nil || end.Cmp(lo) > 0 {
				lo = end
			}
		}
	}
	if lo != nil && hi != nil && lo.Cmp(hi) > 0 {
		return api.Infeasible, nil
	}
	best := lo
	if p.Max {
		best = hi
	}
	if best == nil {
		return api.Unbounded, nil
	}
	return api.Optimal, plus(toBig(p.Const), best)
}

// settled is what is left of a problem where one of its variables is a number: the other variables, the number in the rows' bounds and in Const.
func settled(p api.Problem, variable int, at *big.Rat) api.Problem {
	less := func(b api.Bound, by *big.Rat) api.Bound {
		return api.Bound{Has: b.Has, At: fromBig(minus(toBig(b.At), by))}
	}
	q := api.Problem{Max: p.Max, Const: fromBig(plus(toBig(p.Const), times(toBig(p.Vars[variable].Obj), at)))}
	for j, v := range p.Vars {
		if j != variable {
			q.Vars = append(q.Vars, v)
		}
	}
	for _, row := range p.Rows {
		moved := times(coefOf(row, variable), at)
		other := api.Row{Lo: less(row.Lo, moved), Hi: less(row.Hi, moved)}
		for j := range p.Vars {
			if coef := coefOf(row, j); j != variable && coef.Sign() != 0 {
				place := j
				if j > variable {
					place--
				}
				other.Terms = append(other.Terms, api.Term{Var: place, Coef: fromBig(coef)})
			}
		}
		q.Rows = append(q.Rows, other)
	}
	return q
}

// truth tells what is true of a problem that isn't open: all whole numbers of all whole variables are gone through, and what is left is eliminated.
func truth(p api.Problem) (verdict int, value *big.Rat) {
	variable := -1
	for j, v := range p.Vars {
		if v.Whole {
			variable = j
			break
		}
	}
	if variable < 0 {
		return eliminated(p)
	}
	verdict = api.Infeasible
	lo, hi := toBig(p.Vars[variable].Lo.At), toBig(p.Vars[variable].Hi.At)
	last := floorOf(hi)
	for n := new(big.Int).Neg(floorOf(turn(lo))); n.Cmp(last) <= 0; n = new(big.Int).Add(n, big.NewInt(1)) {
		there, best := truth(settled(p, variable, new(big.Rat).SetInt(n)))
		switch {
		case there == api.Infeasible || verdict == api.Unbounded:
		case there == api.Unbounded:
			verdict, value = api.Unbounded, nil
		case verdict == api.Infeasible || isBetter(p, best, value):
			verdict, value = api.Optimal, best
		}
	}
	return verdict, value
}

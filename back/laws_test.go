package back_test

import (
	"fmt"
	"math/big"
	"slices"
	"testing"

	"vertex/api"
	"vertex/back"
	"vertex/climb"
	"vertex/model"
	"vertex/shape"
)

// sumAt is what a row comes to at a point, or along a ray.
func sumAt(p api.Problem, row api.Row, x []api.Rat) *big.Rat {
	sum := whole(0)
	for _, term := range row.Terms {
		if 0 <= term.Var && term.Var < len(p.Vars) {
			sum = plus(sum, times(toBig(term.Coef), toBig(x[term.Var])))
		}
	}
	return sum
}

// objectiveAt is what the objective comes to at a point, or along a ray, without Const.
func objectiveAt(p api.Problem, x []api.Rat) *big.Rat {
	sum := whole(0)
	for j, v := range p.Vars {
		sum = plus(sum, times(toBig(v.Obj), toBig(x[j])))
	}
	return sum
}

// bounded is a row or a variable: the two are alike in having bounds.
type bounded struct {
	name   string
	lo, hi api.Bound
}

func (b bounded) isCrossed() bool {
	return b.lo.Has && b.hi.Has && toBig(b.lo.At).Cmp(toBig(b.hi.At)) > 0
}

// boundsOf are all rows, and then all variables.
func boundsOf(p api.Problem) (l []bounded) {
	for i, row := range p.Rows {
		l = append(l, bounded{fmt.Sprint("row ", i), row.Lo, row.Hi})
	}
	for j, v := range p.Vars {
		l = append(l, bounded{fmt.Sprint("variable ", j), v.Lo, v.Hi})
	}
	return l
}

// valuesOf are what all rows, and then all variables, come to at a point, or along a ray.
func valuesOf(p api.Problem, x []api.Rat) (l []*big.Rat) {
	for _, row := range p.Rows {
		l = append(l, sumAt(p, row, x))
	}
	for j := range p.Vars {
		l = append(l, toBig(x[j]))
	}
	return l
}

// multipliersOf are Y, of the rows; and then each variable's d: its Obj less the sum of Y times its coefficients.
func multipliersOf(p api.Problem, y []api.Rat) (l []*big.Rat) {
	for i := range p.Rows {
		l = append(l, toBig(y[i]))
	}
	for j, v := range p.Vars {
		d := toBig(v.Obj)
		for i, row := range p.Rows {
			for _, term := range row.Terms {
				if term.Var == j {
					d = minus(d, times(toBig(y[i]), toBig(term.Coef)))
				}
			}
		}
		l = append(l, d)
	}
	return l
}

// isCrossed tells whether a row or a variable has its Lo above its Hi.
func isCrossed(p api.Problem) bool { return slices.ContainsFunc(boundsOf(p), bounded.isCrossed) }

// breaks tells which bound a point breaks, if it breaks one.
func breaks(p api.Problem, x []api.Rat) string {
	if len(x) != len(p.Vars) {
		return "no number for each variable"
	}
	values := valuesOf(p, x)
	for k, b := range boundsOf(p) {
		if b.lo.Has && values[k].Cmp(toBig(b.lo.At)) < 0 || b.hi.Has && values[k].Cmp(toBig(b.hi.At)) > 0 {
			return b.name + " is out of its bounds at X"
		}
	}
	return ""
}

// proven gives Const, and each multiplier times the bound that it speaks of, together; and what is wrong, if that bound isn't there.
func proven(p api.Problem, y []api.Rat) (sum *big.Rat, wrong string) {
	if len(y) != len(p.Rows) {
		return nil, "no number for each row"
	}
	sum = toBig(p.Const)
	mults := multipliersOf(p, y)
	for k, b := range boundsOf(p) {
		speaksOf := b.hi
		if (mults[k].Sign() > 0) != p.Max {
			speaksOf = b.lo
		}
		if mults[k].Sign() == 0 {
			continue
		}
		if !speaksOf.Has {
			return nil, b.name + " has no such bound as its multiplier speaks of"
		}
		sum = plus(sum, times(mults[k], toBig(speaksOf.At)))
	}
	return sum, ""
}

// isBest tells what is wrong with an optimal certificate: P13.5.
func isBest(p api.Problem, c api.Cert) string {
	if wrong := breaks(p, c.X); wrong != "" {
		return wrong
	}
	if plus(toBig(p.Const), objectiveAt(p, c.X)).Cmp(toBig(c.Value)) != 0 {
		return "the point's value is another one"
	}
	sum, wrong := proven(p, c.Y)
	if wrong == "" && sum.Cmp(toBig(c.Value)) != 0 {
		return "the multipliers prove " + sum.RatString()
	}
	return wrong
}

// withoutObjective is the Min problem with the same rows and bounds.
func withoutObjective(p api.Problem) api.Problem {
	p.Max, p.Const, p.Vars = false, api.Rat{}, slices.Clone(p.Vars)
	for j := range p.Vars {
		p.Vars[j].Obj = api.Rat{}
	}
	return p
}

// isNowhere tells what is wrong with an infeasible certificate: P13.6.
func isNowhere(p api.Problem, c api.Cert) string {
	if isCrossed(p) {
		return ""
	}
	sum, wrong := proven(withoutObjective(p), c.Y)
	if wrong == "" && sum.Sign() <= 0 {
		return "the multipliers prove but " + sum.RatString()
	}
	return wrong
}

// isEndless tells what is wrong with an unbounded certificate: P13.6.
func isEndless(p api.Problem, c api.Cert) string {
	if wrong := breaks(p, c.X); wrong != "" {
		return wrong
	}
	if len(c.Ray) != len(p.Vars) {
		return "no number for each variable"
	}
	along := valuesOf(p, c.Ray)
	for k, b := range boundsOf(p) {
		if b.lo.Has && along[k].Sign() < 0 || b.hi.Has && along[k].Sign() > 0 {
			return b.name + " passes a bound along the ray"
		}
	}
	if grows := objectiveAt(p, c.Ray).Sign(); grows == 0 || (grows > 0) != p.Max {
		return "the objective doesn't become better along the ray"
	}
	return ""
}

// holdsTrue asks whether a certificate proves itself by the problem's own rows and bounds: P13.5, P13.6.
func holdsTrue(t *testing.T, p api.Problem, c api.Cert) {
	t.Helper()
	wrong := "no verdict"
	switch c.Verdict {
	case api.Optimal:
		wrong = isBest(p, c)
	case api.Infeasible:
		wrong = isNowhere(p, c)
	case api.Unbounded:
		wrong = isEndless(p, c)
	}
	if wrong != "" {
		t.Fatalf("%s: %s\nof %s", wrong, told(c), shown(p))
	}
}

// kinds counts what a certificate shows of a problem.
func kinds(count map[string]int, p api.Problem, c api.Cert) {
	name := verdictOf(c.Verdict) + map[bool]string{false: " min", true: " max"}[p.Max]
	if c.Verdict == api.Infeasible && isCrossed(p) {
		count[name+", crossed"]++
		return
	}
	count[name]++
	if c.Verdict == api.Unbounded {
		return
	}
	if c.Verdict == api.Infeasible {
		p = withoutObjective(p)
	}
	mults := multipliersOf(p, c.Y)
	for k, b := range boundsOf(p) {
		if mults[k].Sign() != 0 {
			part := map[bool]string{false: "a row's ", true: "a variable's "}[k >= len(p.Rows)]
			count[part+map[bool]string{false: "Hi bears", true: "Lo bears"}[mults[k].Sign() > 0 != p.Max]+map[bool]string{true: " of both"}[b.lo.Has && b.hi.Has]]++
		}
	}
}

// allKinds are what is to be seen among many problems.
func allKinds() []string {
	return []string{
		"optimal min", "optimal max", "infeasible min", "infeasible max", "unbounded min", "unbounded max", "infeasible min, crossed", "infeasible max, crossed",
		"a row's Lo bears", "a row's Hi bears", "a row's Lo bears of both", "a row's Hi bears of both",
		"a variable's Lo bears", "a variable's Hi bears", "a variable's Lo bears of both", "a variable's Hi bears of both",
	}
}

// P13.4 to P13.6, T1: certificates of problems of all kinds are what Of makes of the outcome of their standard, and prove themselves.
func TestSolvesByChance(t *testing.T) {
	r, count := chances(134), map[string]int{}
	for range 6000 {
		p := r.problem()
		c := back.Solve(p)
		s := shape.Make(p)
		if want := told(secondOf(p, s, climb.Run(s.Standard()))); told(c) != want {
			t.Fatalf("%s, want %s\nof %s", told(c), want, shown(p))
		}
		holdsTrue(t, p, c)
		kinds(count, p, c)
	}
	enough(t, 50, count, allKinds()...)
}

// P13.5, P13.6: greater problems prove themselves, too.
func TestGreaterProblems(t *testing.T) {
	r, count := chances(135), map[string]int{}
	for range 1000 {
		p := r.problemOf(4+r.Intn(4), 4+r.Intn(5))
		c := back.Solve(p)
		holdsTrue(t, p, c)
		kinds(count, p, c)
	}
	enough(t, 30, count, allKinds()...)
}

// R5, R6: what counts is the numbers, not how they are told; whole variables are taken as any.
func TestProblemsInOtherForms(t *testing.T) {
	r := chances(136)
	for range 500 {
		p := r.problem()
		want := told(back.Solve(p))
		for _, q := range []api.Problem{model.Tidy(p), r.otherForm(p), r.otherForm(p)} {
			if got := told(back.Solve(q)); got != want {
				t.Fatalf("%s, want %s\nof %s\nand of %s", got, want, shown(q), shown(p))
			}
		}
	}
}

// T7: rows and variables in another order, rows multiplied: the same verdict, and the same value.
func TestAnotherOrder(t *testing.T) {
	r := chances(137)
	for range 500 {
		p := r.problem()
		one, other := back.Solve(p), back.Solve(r.otherOrder(p))
		if one.Verdict != other.Verdict || toBig(one.Value).Cmp(toBig(other.Value)) != 0 {
			t.Fatalf("%s, and in another order %s\nof %s", told(one), told(other), shown(p))
		}
	}
}

// The same problem in the other sense: the objective turned, Max and Min changed. Value and, of an optimal one, Y are turned, and nothing else is.
func TestTheOtherSense(t *testing.T) {
	r := chances(138)
	turned := func(a api.Rat) api.Rat { return fromBig(turn(toBig(a))) }
	for range 500 {
		p := r.problem()
		q := p
		q.Max, q.Const, q.Vars = !p.Max, turned(p.Const), slices.Clone(p.Vars)
		for j := range q.Vars {
			q.Vars[j].Obj = turned(q.Vars[j].Obj)
		}
		want := back.Solve(p)
		if want.Verdict == api.Optimal {
			want.Value = turned(want.Value)
			for i, a := range want.Y {
				want.Y[i] = turned(a)
			}
		}
		if got := told(back.Solve(q)); got != told(want) {
			t.Fatalf("%s, want %s\nof %s", got, told(want), shown(q))
		}
	}
}

// basisOf is the basis in which a problem's standard ends.
func basisOf(p api.Problem) []int { return climb.Run(shape.Make(p).Standard()).Basis }

// moved is a problem with the bounds of a row moved: that of which its multiplier speaks, or both, if they are alike.
func moved(p api.Problem, i int, y, by *big.Rat) api.Problem {
	p.Rows = slices.Clone(p.Rows)
	row := &p.Rows[i]
	alike := row.Lo.Has && row.Hi.Has && toBig(row.Lo.At).Cmp(toBig(row.Hi.At)) == 0
	isLo := y.Sign() > 0 != p.Max
	if isLo || alike {
		row.Lo.At = fromBig(plus(toBig(row.Lo.At), by))
	}
	if !isLo || alike {
		row.Hi.At = fromBig(plus(toBig(row.Hi.At), by))
	}
	return p
}

// P13.5: the value grows by Y as a row's bound does, as long as the basis stays; and it never becomes better than that.
func TestGrowth(t *testing.T) {
	r, count := chances(139), map[string]int{}
	for range 4000 {
		p := r.problem()
		c := back.Solve(p)
		for i, a := range c.Y {
			y := toBig(a)
			if c.Verdict != api.Optimal || y.Sign() == 0 {
				continue
			}
			by := big.NewRat(int64(r.Intn(9)-4), int64(1+r.Intn(40)))
			q := moved(p, i, y, by)
			other, want := back.Solve(q), plus(toBig(c.Value), times(y, by))
			if other.Verdict != api.Optimal {
				continue
			}
			stays, off := slices.Equal(basisOf(p), basisOf(q)), toBig(other.Value).Cmp(want)
			if stays && off != 0 || p.Max && off > 0 || !p.Max && off < 0 {
				t.Fatalf("%s, with row %d moved by %s %s, the basis stays: %v\nof %s", told(c), i, by.RatString(), told(other), stays, shown(p))
			}
			count[fmt.Sprint("max ", p.Max, ", stays ", stays)]++
		}
	}
	enough(t, 150, count, "max false, stays true", "max true, stays true")
}

package check_test

import (
	"math"
	"testing"

	"vertex/api"
)

// The chapter's examples of Check.
func TestExamplesOfCheck(t *testing.T) {
	p := chapters()
	checks(t, p, optimal("10", "3 1", "3"), nil)
	checks(t, p, optimal("9", "3 1", "3"), api.ErrValue)
	checks(t, p, optimal("10", "3 0", "3"), api.ErrPoint)
	checks(t, p, optimal("10", "3 1", "2"), api.ErrBound)
	checks(t, p, optimal("10", "3 1", ""), api.ErrShape)
	q := problem("min 2 x + 3 y + 1 st r: x + y >= 4 s: x + y <= 3 bounds 0 <= x <= 3 y >= 0")
	checks(t, q, infeasible("1 -1"), nil)
	checks(t, q, infeasible("1 0"), api.ErrBound)
	checks(t, q, infeasible("1"), api.ErrShape)
	q = problem("min 2 x + 3 y + 1 st r: x + y >= 4 bounds 5 <= x <= 3 y >= 0")
	checks(t, q, infeasible("0"), nil)
	q = problem("max x st r: x - y <= 1")
	checks(t, q, unbounded("1 0", "1 1"), nil)
	checks(t, q, unbounded("1 0", "1 0"), api.ErrRay)
	checks(t, q, unbounded("1 0", "0 1"), api.ErrRay)
	checks(t, q, unbounded("2 0", "1 1"), api.ErrPoint)
	for _, verdict := range []int{0, 4} {
		checks(t, p, api.Cert{Verdict: verdict}, api.ErrVerdict)
	}
}

// P14.4: of any other verdict ErrVerdict, whatever else is there: below the three and above them, and what would be one of them if it were cut short.
func TestOtherVerdicts(t *testing.T) {
	right := []struct {
		p api.Problem
		c api.Cert
	}{
		{chapters(), optimal("10", "3 1", "3")},
		{problem("min x st x >= 3 x <= 1 bounds x free"), infeasible("1 -1")},
		{problem("max x st r: x - y <= 1"), unbounded("1 0", "1 1")},
		{api.Problem{}, optimal("0", "", "")},
		{api.Problem{}, optimal("0", "7", "8 9")},
	}
	for _, x := range right {
		for _, verdict := range []int{math.MinInt, math.MinInt + 1, -1 << 32, -256, -4, -3, -2, -1, 0, api.Stopped, 5, 6, 7, 255, 256, 257, 1<<16 + 1, 1<<32 + 1, 1<<32 + 2, 1<<32 + 3, math.MaxInt} {
			x.c.Verdict = verdict
			checks(t, x.p, x.c, api.ErrVerdict)
		}
	}
}

// P14.4: of an optimal one the first that is wrong is answered, whatever is wrong behind it.
func TestOrderOfOptimal(t *testing.T) {
	p := chapters()
	for _, x := range []struct {
		c    api.Cert
		want error
	}{
		{optimal("0", "3", "4"), api.ErrShape},
		{optimal("0", "9 9 9", "4"), api.ErrShape},
		{optimal("0", "", "4"), api.ErrShape},
		{optimal("0", "9 9", ""), api.ErrShape},
		{optimal("0", "9 9", "4 0"), api.ErrShape},
		{optimal("10", "3 1 0", "3"), api.ErrShape},
		{optimal("10", "3 1", "3 0"), api.ErrShape},
		{optimal("10", "3", "3 0"), api.ErrShape},
		{optimal("0", "9 9", "4"), api.ErrPoint},
		{optimal("46", "9 9", "3"), api.ErrPoint},
		{optimal("0", "3 1", "4"), api.ErrValue},
		{optimal("9", "3 1", "2"), api.ErrValue},
		{optimal("13", "3 2", "4"), api.ErrBound},
		{optimal("13", "3 2", "3"), api.ErrBound},
		{optimal("10", "3 1", "4"), api.ErrBound},
		{optimal("10", "3 1", "-1"), api.ErrBound},
		{optimal("10", "3 1", "299/100"), api.ErrBound},
		{optimal("10", "3 1", "3"), nil},
	} {
		checks(t, p, x.c, x.want)
	}
}

// P14.4: a point that isn't best has no proof; best points may be several, and proofs too.
func TestOptimal(t *testing.T) {
	p := problem("max x + y st a: x + y <= 4 b: x + y <= 5 bounds x <= 3 y <= 4")
	for _, x := range []string{"3 1", "2 2", "0 4", "1/2 7/2"} {
		checks(t, p, optimal("4", x, "1 0"), nil)
	}
	checks(t, p, optimal("4", "2 2", "0 1"), api.ErrBound)
	checks(t, p, optimal("4", "2 2", "2 -1"), api.ErrBound)
	checks(t, p, optimal("3", "2 1", "1 0"), api.ErrBound)
	checks(t, p, optimal("4", "1 1", "1 0"), api.ErrValue)
	checks(t, p, optimal("5", "2 3", "0 1"), api.ErrPoint)
	p = problem("min x st a: x >= 2 b: 2 x >= 4 bounds x free")
	for _, y := range []string{"1 0", "0 1/2", "1/2 1/4", "1/3 1/3"} {
		checks(t, p, optimal("2", "2", y), nil)
	}
	checks(t, p, optimal("2", "2", "2 -1/2"), api.ErrBound)
	// No point holds, so none is there to be the best one; what is proven would be anything.
	checks(t, problem("min x st bounds 3 <= x <= 1"), optimal("3", "3", ""), api.ErrPoint)
	checks(t, problem("max x st bounds 3 <= x <= 1"), optimal("1", "1", ""), api.ErrPoint)
}

// P14.4: problems without rows, without variables, without anything.
func TestLittleProblems(t *testing.T) {
	for _, sense := range []bool{false, true} {
		p := api.Problem{Max: sense, Const: num("7")}
		checks(t, p, optimal("7", "", ""), nil)
		checks(t, p, optimal("6", "", ""), api.ErrValue)
		checks(t, p, optimal("7", "0", ""), api.ErrShape)
		checks(t, p, optimal("7", "", "0"), api.ErrShape)
		checks(t, p, infeasible(""), api.ErrBound)
		checks(t, p, infeasible("0"), api.ErrShape)
		checks(t, p, unbounded("", ""), api.ErrRay)
		checks(t, p, unbounded("0", ""), api.ErrShape)
		checks(t, p, unbounded("", "0"), api.ErrShape)
		p.Rows = []api.Row{{Lo: has("1")}}
		checks(t, p, infeasible("1"), nil)
		checks(t, p, infeasible("1/1000000000000000000000"), nil)
		checks(t, p, infeasible("-1"), api.ErrBound)
		checks(t, p, infeasible("0"), api.ErrBound)
		checks(t, p, optimal("7", "", "0"), api.ErrPoint)
	}
	checks(t, problem("min x st bounds 2 <= x <= 5"), optimal("2", "2", ""), nil)
	checks(t, problem("max x st bounds 2 <= x <= 5"), optimal("5", "5", ""), nil)
	checks(t, problem("max x st bounds 2 <= x <= 5"), optimal("2", "2", ""), api.ErrBound)
	checks(t, problem("min x st bounds x free"), unbounded("7", "-1"), nil)
	checks(t, problem("max x st bounds x free"), unbounded("7", "-1"), api.ErrRay)
}

// P14.4: of an infeasible one neither the sense nor the objective counts: what they prove is the same.
func TestInfeasibleWithoutObjective(t *testing.T) {
	for _, objective := range []string{"min x", "max x", "min 0 x", "max 100 x - 50", "min 3 x + 1000", "max 3 x + 1000", "min - 1000 + x"} {
		p := problem(objective + " st a: x >= 3 b: x <= 1 bounds x free")
		checks(t, p, infeasible("1 -1"), nil)
		checks(t, p, infeasible("1/3 -1/3"), nil)
		checks(t, p, infeasible("-1 1"), api.ErrBound)
		checks(t, p, infeasible("0 0"), api.ErrBound)
		checks(t, p, infeasible("1 -2"), api.ErrBound)
		checks(t, p, infeasible("1"), api.ErrShape)
		checks(t, p, infeasible("1 -1 0"), api.ErrShape)
		checks(t, p, infeasible(""), api.ErrShape)
	}
}

// P14.4: what is proven has to be above nought: nought itself isn't enough, a hair is.
func TestInfeasibleByAHair(t *testing.T) {
	touching := problem("min x st a: x >= 3 b: x <= 3 bounds x free")
	checks(t, touching, infeasible("1 -1"), api.ErrBound)
	apart := problem("min x st a: x >= 300000000000000000001/100000000000000000000 b: x <= 3 bounds x free")
	checks(t, apart, infeasible("1 -1"), nil)
	over := problem("min x st a: x >= 299999999999999999999/100000000000000000000 b: x <= 3 bounds x free")
	checks(t, over, infeasible("1 -1"), api.ErrBound)
	own := problem("max y st a: x + y >= 6 bounds x <= 2 y <= 3")
	checks(t, own, infeasible("1"), nil)
	checks(t, own, infeasible("-1"), api.ErrBound)
	own.Rows[0].Lo = has("5")
	checks(t, own, infeasible("1"), api.ErrBound)
}

// P14.4: a crossed row or variable, be it the last one, is enough, whatever Y's numbers are; but there have to be as many of them as rows.
func TestCrossed(t *testing.T) {
	for _, text := range []string{
		"min x st a: 3 <= x <= 1 b: y >= 0",
		"max x st a: y >= 0 b: 3 <= x <= 1",
		"max x st a: x >= 0 b: y >= 0 bounds 3 <= x <= 1",
		"min x st a: x >= 0 b: y >= 0 bounds 1/3 <= y <= 333333333333333333333/1000000000000000000000",
		"min x st a: x >= 0 b: 0 x + 0 y >= 0 bounds y <= -1",
	} {
		for _, y := range []string{"0 0", "1 -1", "-1 1", "7 7", "-7 -7"} {
			checks(t, problem(text), infeasible(y), nil)
		}
		for _, y := range []string{"", "0", "0 0 0"} {
			checks(t, problem(text), infeasible(y), api.ErrShape)
		}
	}
}

// Bounds that touch aren't crossed, nor are those of which one is absent, whatever number stands in it; nor do bounds of one thing cross those of another one.
func TestNotCrossed(t *testing.T) {
	for _, b := range []both{{has("3"), has("3")}, {has("3"), hasNot("1")}, {hasNot("3"), has("1")}, {hasNot("3"), hasNot("1")}, {has("1"), has("3")}, {api.Bound{Has: true, At: odd("-2/3")}, api.Bound{Has: true, At: num("-2/3")}}, {api.Bound{Has: true, At: noughts()[3]}, api.Bound{Has: true, At: noughts()[4]}}} {
		p := api.Problem{Vars: []api.Var{{Lo: has("9"), Hi: has("9")}, {Lo: b.lo, Hi: b.hi}}, Rows: []api.Row{{Lo: hasNot("0"), Hi: has("0")}, {}}}
		checks(t, p, infeasible("0 0"), api.ErrBound)
		p = api.Problem{Vars: make([]api.Var, 2), Rows: []api.Row{{Lo: has("9"), Hi: has("9")}, {Lo: b.lo, Hi: b.hi}}}
		checks(t, p, infeasible("0 0"), api.ErrBound)
	}
}

// P14.4: of an unbounded one the first that is wrong is answered, whatever is wrong behind it.
func TestOrderOfUnbounded(t *testing.T) {
	p := problem("max x st r: x - y <= 1")
	for _, x := range []struct {
		c    api.Cert
		want error
	}{
		{unbounded("2", "0 0"), api.ErrShape},
		{unbounded("2 0 0", "0 0"), api.ErrShape},
		{unbounded("", "1 1"), api.ErrShape},
		{unbounded("2 0", "1"), api.ErrShape},
		{unbounded("2 0", ""), api.ErrShape},
		{unbounded("1 0", "1 1 0"), api.ErrShape},
		{unbounded("1 0 0", "1 1 0"), api.ErrShape},
		{unbounded("2 0", "0 0"), api.ErrPoint},
		{unbounded("2 0", "1 1"), api.ErrPoint},
		{unbounded("1 -1", "1 1"), api.ErrPoint},
		{unbounded("1 0", "0 0"), api.ErrRay},
		{unbounded("1 0", "-1 -1"), api.ErrRay},
		{unbounded("1 0", "1 999/1000"), api.ErrRay},
		{unbounded("1 0", "1 1"), nil},
		{unbounded("5 5", "1/1000 7"), nil},
	} {
		checks(t, p, x.c, x.want)
	}
}

// P14.4: along a ray a row or a variable may fall where it has no Lo, rise where it has no Hi, and stay wherever.
func TestRaysOfAllKinds(t *testing.T) {
	for sign := -1; sign <= 1; sign++ {
		for _, b := range ways() {
			want := error(nil)
			if sign < 0 && b.lo.Has || sign > 0 && b.hi.Has {
				want = api.ErrRay
			}
			c := unbounded("0 9", "1 "+[]string{"-1/5", "0", "1/5"}[sign+1])
			for _, sense := range []bool{false, true} {
				obj := map[bool]api.Rat{false: num("-1"), true: num("1")}[sense]
				variable := api.Problem{Max: sense, Vars: []api.Var{{Obj: obj}, {Lo: b.lo, Hi: b.hi}}}
				checks(t, variable, c, want)
				row := api.Problem{Max: sense, Vars: []api.Var{{Obj: obj}, {}}, Rows: []api.Row{{}, {Terms: []api.Term{{Var: 1, Coef: num("1")}}, Lo: b.lo, Hi: b.hi}}}
				checks(t, row, c, want)
			}
		}
	}
}

// P14.4: a row's sum along a ray is that of all its terms: what rises and what falls may come to nothing.
func TestRowsAlongRays(t *testing.T) {
	p := problem("max x st a: x - y = 3 b: 0 <= 2 x - y - z <= 9 bounds y free")
	checks(t, p, unbounded("3 0 0", "1 1 1"), nil)
	checks(t, p, unbounded("3 0 0", "1 1 0"), api.ErrRay)
	checks(t, p, unbounded("3 0 0", "1 1 2"), api.ErrRay)
	checks(t, p, unbounded("3 0 0", "1 2 0"), api.ErrRay)
	p.Rows[0].Terms = []api.Term{{Var: 0, Coef: num("2")}, {Var: 1, Coef: num("-1")}, {Var: 0, Coef: num("-1")}, {Var: 3, Coef: num("1")}, {Var: -1, Coef: num("1")}}
	checks(t, p, unbounded("3 0 0", "1 1 1"), nil)
}

// P14.4: the objective has to become better in the problem's own sense; that it stays isn't enough, and Const doesn't count.
func TestObjectiveAlongRays(t *testing.T) {
	for _, constant := range []string{"", " + 100", " - 100"} {
		least, greatest := problem("min x - y"+constant+" st"), problem("max x - y"+constant+" st")
		for _, ray := range []string{"0 0", "1 1", "7/2 7/2"} {
			checks(t, least, unbounded("0 0", ray), api.ErrRay)
			checks(t, greatest, unbounded("0 0", ray), api.ErrRay)
		}
		checks(t, least, unbounded("0 0", "1 1000001/1000000"), nil)
		checks(t, greatest, unbounded("0 0", "1 1000001/1000000"), api.ErrRay)
		checks(t, least, unbounded("0 0", "1000001/1000000 1"), api.ErrRay)
		checks(t, greatest, unbounded("0 0", "1000001/1000000 1"), nil)
	}
}

// P14.3: Whole isn't asked, of a point, of a ray, or of multipliers.
func TestWholeIsNotAsked(t *testing.T) {
	checks(t, problem("max x st 2 x <= 3 general x"), optimal("3/2", "3/2", "1/2"), nil)
	checks(t, problem("max x st 2 x <= 3 general x"), optimal("1", "1", "1/2"), api.ErrBound)
	checks(t, problem("min x st bounds 1/3 <= x <= 2/3 general x"), optimal("1/3", "1/3", ""), nil)
	checks(t, problem("min x st bounds 1/3 <= x <= 2/3 general x"), infeasible(""), api.ErrBound)
	checks(t, problem("max x st x >= 1/2 general x"), unbounded("1/2", "1/3"), nil)
	proves(t, problem("max x st 2 x <= 3 general x"), list("1/2"), "3/2")
	proves(t, problem("min x st bounds 1/3 <= x <= 2/3 general x"), nil, "1/3")
}

// R5: Value, the point, the multipliers and the ray may be told in any form.
func TestCertificatesInOtherForms(t *testing.T) {
	checks(t, chapters(), api.Cert{Verdict: api.Optimal, Value: odd("10"), X: odds("3 1"), Y: odds("3")}, nil)
	checks(t, chapters(), api.Cert{Verdict: api.Optimal, Value: odd("9"), X: odds("3 1"), Y: odds("3")}, api.ErrValue)
	checks(t, problem("min x st x >= 3 x <= 1 bounds x free"), api.Cert{Verdict: api.Infeasible, Y: odds("1 -1")}, nil)
	checks(t, problem("max x st x - y <= 1"), api.Cert{Verdict: api.Unbounded, X: odds("1 0"), Ray: odds("1 1")}, nil)
	for _, nought := range noughts() {
		for _, sense := range []bool{false, true} {
			p := problem("min x + y st x - y = 0")
			p.Max = sense
			c := api.Cert{Value: nought, X: []api.Rat{nought, nought}, Y: []api.Rat{nought}, Ray: []api.Rat{nought, nought}}
			for verdict, want := range []error{api.ErrVerdict, map[bool]error{true: api.ErrBound}[sense], api.ErrBound, api.ErrRay} {
				c.Verdict = verdict
				checks(t, p, c, want)
			}
		}
	}
}

// R3: lists that are nil and lists that are empty are the same.
func TestEmptyLists(t *testing.T) {
	empty := []api.Rat{}
	for verdict, want := range []error{api.ErrVerdict, nil, api.ErrBound, api.ErrRay} {
		for _, p := range []api.Problem{{}, {Vars: []api.Var{}, Rows: []api.Row{}}} {
			checks(t, p, api.Cert{Verdict: verdict}, want)
			checks(t, p, api.Cert{Verdict: verdict, X: empty, Y: empty, Ray: empty}, want)
		}
	}
}

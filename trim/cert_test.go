package trim_test

import (
	"testing"

	"vertex/api"
	"vertex/check"
	"vertex/trim"
)

// proves asks what a certificate is brought back to, and whether that is one of the whole problem, as the other one is of what is left.
func proves(t *testing.T, p api.Problem, c api.Cert, want string) {
	t.Helper()
	brings(t, p, c, want)
	u := trim.Of(p)
	if q := u.Problem(); !isProof(q, c) || check.Check(q, c) != nil {
		t.Errorf("the test's own %s is no certificate of %s", toldCert(c), told(q))
	}
	if b := u.Cert(c); !isProof(p, b) || check.Check(p, b) != nil {
		t.Errorf("%s is no certificate of %s", toldCert(b), told(p))
	}
}

// The chapter's examples of the way back, and those that its table leaves.
func TestExamplesOfTheWayBack(t *testing.T) {
	proves(t, problem("min x st r: 2 x >= 3"), optimal("3/2", "", ""), "optimal 3/2, X 3/2, Y 1/2")
	proves(t, problem("max x st r: - 2 x >= -6 s: 0 <= 1"), optimal("3", "", ""), "optimal 3, X 3, Y -1/2 0")
	proves(t, problem("max x st r: - 2 x >= -6 s: 0 <= 1 bounds x free"), optimal("3", "", ""), "optimal 3, X 3, Y -1/2 0")
	proves(t, problem("min x + y st r: x + y >= 2 bounds x = 1"), optimal("2", "", ""), "optimal 2, X 1 1, Y 1")
	proves(t, problem("min x st r: x >= 3 bounds x <= 2"), infeasible("1"), "infeasible, Y 1")
	proves(t, problem("min - x st"), unbounded("5", "1/2"), "unbounded, X 5, Ray 1/2")
	proves(t, problem("min x + y st r: x - x + y = 4 bounds x >= -1 y free"), optimal("3", "", ""), "optimal 3, X -1 4, Y 1")
	proves(t, problem("min 0 x st bounds x free int x"), optimal("0", "", ""), "optimal 0, X 0")
}

// many is a problem of which a, c and rows p, r, s go, and b, d, e and rows q, t, u are left.
func many(sense string) api.Problem {
	return problem(sense + " 3 a + b + 2 c + d + e st p: 2 b >= 4 q: a + b + d >= 1 r: 0 <= 7 s: c <= 8 t: b - d + e <= 5 u: c + b + e >= 2 bounds a = 7/2 c = -1 d free e free")
}

// P15.5: the answer has the verdict, and of each what it asks for; all else is zero, whatever stands there. Of another verdict it is the zero certificate.
func TestVerdicts(t *testing.T) {
	for _, sense := range []string{"min", "max"} {
		p := many(sense)
		u := trim.Of(p)
		if u.Steps() != 5 {
			t.Fatalf("%s, %d steps", told(u.Problem()), u.Steps())
		}
		full := api.Cert{Value: odd("9/2"), X: odds("1 2 3"), Y: odds("-1 1/2 0"), Ray: odds("4 5 6")}
		// d of row p is, of the Min problem, 1 - (-1) - 1/2; of the Max problem it asks for Hi; of Infeasible it is 1/2.
		mult := map[string]string{"min": "3/4 -1 0 0 1/2 0", "max": "0 -1 0 0 1/2 0"}[sense]
		for verdict, want := range map[int]string{
			api.Optimal:    "optimal 9/2, X 7/2 1 -1 2 3, Y " + mult,
			api.Infeasible: "infeasible, Y 1/4 -1 0 0 1/2 0",
			api.Unbounded:  "unbounded, X 7/2 1 -1 2 3, Ray 0 4 0 5 6",
			0:              "0", api.Stopped: "0", 9: "0", -1: "0",
		} {
			c := full
			c.Verdict = verdict
			brings(t, p, c, want)
			got := u.Cert(c)
			if verdict != api.Optimal && !isNought(got.Value) || verdict != api.Unbounded && len(got.Ray) > 0 || verdict == api.Infeasible && len(got.X) > 0 || verdict == api.Unbounded && len(got.Y) > 0 {
				t.Errorf("verdict %d: %v", verdict, got)
			}
		}
	}
}

// R6: of lists that are too short the missing numbers are 0, of those that are too long the last ones don't count.
func TestListsTooShortAndTooLong(t *testing.T) {
	p := many("min")
	for _, x := range []struct{ x, y, ray, optimal, infeasible, unbounded string }{
		{"", "", "", "X 7/2 0 -1 0 0, Y 1/2 0 0 0 0 0", "Y 0 0 0 0 0 0", "X 7/2 0 -1 0 0, Ray 0 0 0 0 0"},
		{"1", "2", "3", "X 7/2 1 -1 0 0, Y 0 2 0 0 0 0", "Y 0 2 0 0 0 0", "X 7/2 1 -1 0 0, Ray 0 3 0 0 0"},
		{"1 2", "-2 -3", "3 4", "X 7/2 1 -1 2 0, Y 3 -2 0 0 -3 0", "Y 5/2 -2 0 0 -3 0", "X 7/2 1 -1 2 0, Ray 0 3 0 4 0"},
		{"1 2 5 6", "-2 -3 1 7 8", "3 4 5 6", "X 7/2 1 -1 2 5, Y 5/2 -2 0 0 -3 1", "Y 2 -2 0 0 -3 1", "X 7/2 1 -1 2 5, Ray 0 3 0 4 5"},
	} {
		c := api.Cert{X: list(x.x), Y: list(x.y), Ray: list(x.ray)}
		for verdict, want := range map[int]string{api.Optimal: "optimal 0, " + x.optimal, api.Infeasible: "infeasible, " + x.infeasible, api.Unbounded: "unbounded, " + x.unbounded} {
			c.Verdict = verdict
			brings(t, p, c, want)
		}
	}
	for _, verdict := range []int{api.Optimal, api.Infeasible, api.Unbounded} {
		brings(t, api.Problem{}, api.Cert{Verdict: verdict, X: list("1 2"), Y: list("3"), Ray: list("4")}, map[int]string{api.Optimal: "optimal 0", api.Infeasible: "infeasible", api.Unbounded: "unbounded"}[verdict])
	}
}

// P15.5: a row's multiplier is d by its coefficient, where the bound that d asks for was the row's: in the variable's absence of one, or strictly tighter.
func TestWhoseBoundItWas(t *testing.T) {
	for _, x := range []struct{ ownLo, ownHi, coef, rowLo, rowHi, above, below string }{
		// d above 0 asks for Lo, of a Min problem; d below 0 for Hi.
		{"", "", "2", "3", "", "3/2", "0"}, {"", "", "2", "", "3", "0", "-3/2"}, {"", "", "2", "3", "4", "3/2", "-3/2"}, {"", "", "2", "", "", "0", "0"},
		{"", "", "-2", "3", "", "0", "3/2"}, {"", "", "-2", "", "3", "-3/2", "0"}, {"", "", "-2", "3", "4", "-3/2", "3/2"},
		// Tighter, as tight, looser.
		{"1", "", "1/3", "2", "", "9", "0"}, {"6", "", "1/3", "2", "", "0", "0"}, {"7", "", "1/3", "2", "", "0", "0"},
		{"", "9", "1/3", "", "2", "0", "-9"}, {"", "6", "1/3", "", "2", "0", "0"}, {"", "5", "1/3", "", "2", "0", "0"},
		{"0", "", "-1", "", "-2", "-3", "0"}, {"2", "", "-1", "", "-2", "0", "0"}, {"", "3", "-1", "-2", "", "0", "3"}, {"", "2", "-1", "-2", "", "0", "0"},
		// The one was the row's, the other one wasn't.
		{"0", "4", "1", "2", "5", "3", "0"}, {"2", "9", "1", "2", "5", "0", "-3"}, {"0", "9", "-1", "-5", "-2", "-3", "3"}, {"3", "5", "1", "2", "5", "0", "0"},
	} {
		for _, max := range []bool{false, true} {
			p := oneTerm(x.ownLo, x.ownHi, x.coef, x.rowLo, x.rowHi)
			p.Max = max
			above, below := x.above, x.below
			if max {
				// The other bound is asked for, and d is the other way round than where that bound was asked for before.
				above, below = turn(toBig(num(below))).RatString(), turn(toBig(num(above))).RatString()
			}
			for obj, want := range map[string]string{"3": above, "-3": below, "0": "0"} {
				p.Vars[0].Obj = num(obj)
				brings(t, p, optimal("1", "4 5", "0"), "optimal 1, X 4 5, Y "+want+" 0")
				// The Obj is turned, but the row that is left bears so much that d is the same.
				p.Vars[0].Obj = odd(turn(toBig(num(obj))).RatString())
				rest := times(toBig(num("-2")), toBig(num(obj))).RatString()
				brings(t, p, optimal("1", "4 5", rest), "optimal 1, X 4 5, Y "+want+" "+rest)
			}
		}
	}
}

// P15.5: of Infeasible, Obj counts as 0 and the problem as Min.
func TestInfeasible(t *testing.T) {
	for _, sense := range []string{"min", "max"} {
		for _, obj := range []string{"5 x", "- 5 x", "x - x"} {
			// The sum of x and y is 1 at most, x is 2 at least.
			p := problem(sense + " " + obj + " st r: x >= 2 s: x + y <= 1 bounds x free")
			proves(t, p, infeasible("-1"), "infeasible, Y 1 -1")
			p = problem(sense + " " + obj + " st s: x + y <= 1 r: - 4 x <= -8 bounds x free")
			proves(t, p, infeasible("-1"), "infeasible, Y -1 -1/4")
			// x is 2 at most, and 3 at least with y.
			p = problem(sense + " " + obj + " st r: x <= 2 s: x - y >= 3 bounds x free")
			proves(t, p, infeasible("1"), "infeasible, Y -1 1")
			// x is fixed at 2, and leaves a row that can't be met.
			p = problem(sense + " " + obj + " st r: x >= 2 s: 3 x <= 1 bounds x <= 2")
			proves(t, p, infeasible("-1"), "infeasible, Y 3 -1")
		}
	}
}

// P15.6, Infeasible: where bounds are crossed any multipliers are a certificate, there and back.
func TestCrossed(t *testing.T) {
	for _, text := range []string{
		"min x st r: 2 x >= 3 s: 5 <= x + y <= 4 bounds x free",
		"max z st r: 2 x >= 3 s: x + y >= 4 bounds 3 <= z <= 2 x free",
		"max x + z st r: 2 x >= 3 s: 5 <= x + y + z <= 4 bounds x free z = 7",
	} {
		proves(t, problem(text), infeasible("-3"), "infeasible, Y 3/2 -3")
	}
}

// P15.5: rows that went later count in what is left of a variable, by the coefficient that the problem has, whatever went meanwhile.
func TestRowsThatWentLater(t *testing.T) {
	// s becomes a bound of x, tighter than that of r, when y is gone: it bears all.
	proves(t, problem("min 3 x + y st r: x >= 1 s: x + y >= 5 bounds x free y = 1"), optimal("13", "", ""), "optimal 13, X 4 1, Y 0 3")
	// It is looser: r bears all.
	proves(t, problem("min 3 x + y st r: x >= 1 s: x + y >= 2 bounds x free y = 1"), optimal("4", "", ""), "optimal 4, X 1 1, Y 3 0")
	// s bears what y costs, and with that a part of x, of which r bears the rest.
	proves(t, problem("min 3 x + y st r: 2 x >= 2 s: x + y >= 5 u: x <= 1 bounds x free y free"), optimal("7", "", ""), "optimal 7, X 1 4, Y 1 1 0")
	proves(t, problem("max -3 x - y st r: 2 x >= 2 s: x + y >= 5 u: x <= 1 bounds x free y free"), optimal("-7", "", ""), "optimal -7, X 1 4, Y -1 -1 0")
	// x is fixed by r, and goes; its part in s, which is left, counts.
	proves(t, problem("min 3 x + y + 2 z st r: x >= 2 s: x + y + z >= 5 bounds x <= 2"), optimal("9", "3 0", "1"), "optimal 9, X 2 3 0, Y 2 1")
	proves(t, problem("max 3 x - y - 2 z st r: x <= 2 s: 2 x + y + z >= 5 bounds x >= 2"), optimal("5", "1 0", "-1"), "optimal 5, X 2 1 0, Y 5 -1")
	// In a pass rows come ahead of variables: s is a bound of y before r is one, which is as tight.
	proves(t, problem("min x + y st r: x + y >= 2 s: y >= 1 bounds x = 1"), optimal("2", "", ""), "optimal 2, X 1 1, Y 0 1")
	// A row that went ahead doesn't count: of r and s, which give the same bound, the first is the tighter one.
	proves(t, problem("min 3 x st r: 2 x >= 2 s: 3 x >= 3 u: x >= 1/2 bounds x free"), optimal("3", "", ""), "optimal 3, X 1, Y 3/2 0 0")
	proves(t, problem("min 3 x st u: x >= 1/2 r: 2 x >= 2 s: 3 x >= 3 bounds x free"), optimal("3", "", ""), "optimal 3, X 1, Y 0 3/2 0")
	proves(t, problem("min 3 x st u: x >= 1/2 r: 2 x >= 2 s: 3 x >= 4 bounds x free"), optimal("4", "", ""), "optimal 4, X 4/3, Y 0 0 1")
}

// Numbers told otherwise than in the one form count for what they are, and are answered in it.
func TestOtherForms(t *testing.T) {
	p := problem("min 3 x + y + 2 z st r: x >= 2 s: x + y + z >= 5 bounds x <= 2")
	proves(t, p, api.Cert{Verdict: api.Optimal, Value: odd("9"), X: append(odds("3"), noughts()[4]), Y: odds("1")}, "optimal 9, X 2 3 0, Y 2 1")
	for _, nought := range noughts() {
		brings(t, p, api.Cert{Verdict: api.Optimal, Value: nought, X: []api.Rat{nought, nought}, Y: []api.Rat{nought}}, "optimal 0, X 2 0 0, Y 3 0")
		brings(t, p, api.Cert{Verdict: api.Unbounded, X: []api.Rat{nought, nought}, Ray: []api.Rat{nought, nought}}, "unbounded, X 2 0 0, Ray 0 0 0")
		brings(t, p, api.Cert{Verdict: api.Infeasible, Y: []api.Rat{nought}}, "infeasible, Y 0 0")
	}
	great := "36893488147419103233"
	brings(t, p, api.Cert{Verdict: api.Infeasible, Y: odds("-" + great)}, "infeasible, Y "+great+" -"+great)
	brings(t, p, api.Cert{Verdict: api.Unbounded, X: odds(great + " 1/" + great), Ray: odds("2/" + great + " -3")}, "unbounded, X 2 "+great+" 1/"+great+", Ray 0 2/"+great+" -3")
}

package span_test

import (
	"math"
	"strconv"
	"strings"
	"testing"

	"vertex/api"
	"vertex/back"
	"vertex/model"
	"vertex/span"
)

// The chapter's example of Dual.
func TestDualExample(t *testing.T) {
	dualIs(t, problem("min 2 x + 3 y + 1 st r: x + y >= 4 bounds x <= 3"), "max : 1 | rp0 4 from 0 to none | vp0 0 from 0 to none | vm0 -3 from 0 to none | vp1 0 from 0 to none | x0: 1@0 1@1 -1@2 from 2 to 2 | x1: 1@0 1@3 from 3 to 3")
}

// P17.8: of a Max problem the other bounds are the plus ones; the order of the names is the same.
func TestDualOfMax(t *testing.T) {
	dualIs(t, problem("max 2 x + 3 y + 1 st r: x + y >= 4 bounds x <= 3"), "min : 1 | rm0 -4 from 0 to none | vp0 3 from 0 to none | vm0 0 from 0 to none | vm1 0 from 0 to none | x0: -1@0 1@1 -1@2 from 2 to 2 | x1: -1@0 -1@3 from 3 to 3")
	dualIs(t, problem("max 3 x + 5 y st a: x + y <= 4 b: x + 3 y <= 6"), "min : 0 | rp0 4 from 0 to none | rp1 6 from 0 to none | vm0 0 from 0 to none | vm1 0 from 0 to none | x0: 1@0 1@1 -1@2 from 3 to 3 | x1: 1@0 3@1 -1@3 from 5 to 5")
}

// allBounds is a problem whose rows, and whose variables, have no bound, a Lo, a Hi, both, and crossed ones.
func allBounds() (p api.Problem) {
	for k, b := range [][2]api.Bound{{hasNot("5"), hasNot("7")}, {has("2"), hasNot("7")}, {hasNot("5"), has("3")}, {has("-2"), has("3")}, {has("3"), has("-2")}} {
		p.Vars = append(p.Vars, api.Var{Obj: num(strconv.Itoa(k)), Lo: b[0], Hi: b[1]})
		p.Rows = append(p.Rows, api.Row{Terms: []api.Term{{Var: k, Coef: num("7")}}, Lo: b[0], Hi: b[1]})
	}
	return p
}

// P17.8: a variable for each bound that is there, none for one that isn't.
func TestDualOfAllBounds(t *testing.T) {
	p := allBounds()
	dualIs(t, p, "max : 0 | rp1 2 from 0 to none | rm2 -3 from 0 to none | rp3 -2 from 0 to none | rm3 -3 from 0 to none | rp4 3 from 0 to none | rm4 2 from 0 to none"+
		" | vp1 2 from 0 to none | vm2 -3 from 0 to none | vp3 -2 from 0 to none | vm3 -3 from 0 to none | vp4 3 from 0 to none | vm4 2 from 0 to none"+
		" | x0: from 0 to 0 | x1: 7@0 1@6 from 1 to 1 | x2: -7@1 -1@7 from 2 to 2 | x3: 7@2 -7@3 1@8 -1@9 from 3 to 3 | x4: 7@4 -7@5 1@10 -1@11 from 4 to 4")
	p.Max = true
	dualIs(t, p, "min : 0 | rm1 -2 from 0 to none | rp2 3 from 0 to none | rp3 3 from 0 to none | rm3 2 from 0 to none | rp4 -2 from 0 to none | rm4 -3 from 0 to none"+
		" | vm1 -2 from 0 to none | vp2 3 from 0 to none | vp3 3 from 0 to none | vm3 2 from 0 to none | vp4 -2 from 0 to none | vm4 -3 from 0 to none"+
		" | x0: from 0 to 0 | x1: -7@0 -1@6 from 1 to 1 | x2: 7@1 1@7 from 2 to 2 | x3: 7@2 -7@3 1@8 -1@9 from 3 to 3 | x4: 7@4 -7@5 1@10 -1@11 from 4 to 4")
}

// P17.8, R6: terms of one variable together, those that make 0 left out, and those of no variable.
func TestDualOfTermsTogether(t *testing.T) {
	term := func(variable int, coef string) api.Term { return api.Term{Var: variable, Coef: odd(coef)} }
	p := api.Problem{
		Vars: []api.Var{{Obj: num("1")}, {Obj: num("2")}, {Obj: num("3")}},
		Rows: []api.Row{
			{Terms: []api.Term{term(2, "1/2"), term(0, "3"), term(2, "1/3"), term(0, "-3"), term(1, "0"), term(3, "5"), term(-1, "5")}, Lo: has("4"), Hi: has("6")},
			{Terms: []api.Term{term(math.MaxInt, "5"), term(math.MinInt, "5")}, Lo: has("0")},
			{Hi: has("0")},
		},
	}
	dualIs(t, p, "max : 0 | rp0 4 from 0 to none | rm0 -6 from 0 to none | rp1 0 from 0 to none | rm2 0 from 0 to none | x0: from 1 to 1 | x1: from 2 to 2 | x2: 5/6@0 -5/6@1 from 3 to 3")
	p.Max = true
	dualIs(t, p, "min : 0 | rp0 6 from 0 to none | rm0 -4 from 0 to none | rm1 0 from 0 to none | rp2 0 from 0 to none | x0: from 1 to 1 | x1: from 2 to 2 | x2: 5/6@0 -5/6@1 from 3 to 3")
}

// P17.8: problems with no rows, with no variables, with neither.
func TestDualOfProblemsWithNothing(t *testing.T) {
	dualIs(t, api.Problem{}, "max : 0")
	dualIs(t, api.Problem{Max: true, Const: odd("5/2")}, "min : 5/2")
	dualIs(t, api.Problem{Vars: []api.Var{{Obj: odd("3"), Hi: has("1")}, {}}}, "max : 0 | vm0 -1 from 0 to none | x0: -1@0 from 3 to 3 | x1: from 0 to 0")
	dualIs(t, api.Problem{Rows: []api.Row{{Terms: []api.Term{{Coef: num("1")}}, Lo: has("1")}, {Lo: has("-1"), Hi: has("1")}}}, "max : 0 | rp0 1 from 0 to none | rp1 -1 from 0 to none | rm1 -1 from 0 to none")
	dualIs(t, api.Problem{Vars: []api.Var{}, Rows: []api.Row{}}, "max : 0")
}

// P17.8: Whole, names, and numbers in bounds that aren't there count for nothing; Const is p's.
func TestDualPassesOver(t *testing.T) {
	p := problem("min cost: x + 2 y + 3/2 st one: x + y >= 1 two: x - y <= 3 bounds y <= 8 int x")
	const want = "max : 3/2 | rp0 1 from 0 to none | rm1 -3 from 0 to none | vp0 0 from 0 to none | vp1 0 from 0 to none | vm1 -8 from 0 to none | x0: 1@0 -1@1 1@2 from 1 to 1 | x1: 1@0 1@1 1@3 -1@4 from 2 to 2"
	dualIs(t, p, want)
	for j := range p.Vars {
		p.Vars[j].Whole, p.Vars[j].Name = !p.Vars[j].Whole, "rp0"
	}
	for i := range p.Rows {
		p.Rows[i].Name = "x0"
	}
	p.Name = "another"
	p.Rows[0].Hi.At, p.Rows[1].Lo.At, p.Vars[0].Hi.At = odd("4"), odd("5"), odd("6")
	dualIs(t, p, want)
}

// P17.8: more than ten rows and variables: their places in decimal.
func TestDualOfManyRowsAndVariables(t *testing.T) {
	p := api.Problem{Const: num("1")}
	for k := range 123 {
		p.Vars = append(p.Vars, api.Var{Obj: num(strconv.Itoa(k)), Lo: has("0"), Hi: has("9")})
		p.Rows = append(p.Rows, api.Row{Terms: []api.Term{{Var: 122 - k, Coef: num("2")}}, Lo: has("-1"), Hi: has("1")})
	}
	d := span.Dual(p)
	if len(d.Vars) != 492 || len(d.Rows) != 123 || told(d) != told(secondDual(p)) {
		t.Fatalf("%d variables, %d rows", len(d.Vars), len(d.Rows))
	}
	for place, want := range map[int]string{0: "rp0", 1: "rm0", 18: "rp9", 20: "rp10", 23: "rm11", 200: "rp100", 245: "rm122", 246: "vp0", 247: "vm0", 266: "vp10", 491: "vm122"} {
		if d.Vars[place].Name != want {
			t.Errorf("%d: %s, want %s", place, d.Vars[place].Name, want)
		}
	}
	for place, want := range map[int]string{0: "x0", 9: "x9", 10: "x10", 122: "x122"} {
		if d.Rows[place].Name != want {
			t.Errorf("%d: %s, want %s", place, d.Rows[place].Name, want)
		}
	}
}

// P17.8, R5: all numbers come in the one form, whatever form they had.
func TestDualOfOtherForms(t *testing.T) {
	for _, nought := range noughts() {
		p := api.Problem{Const: nought, Vars: []api.Var{{Obj: nought, Lo: api.Bound{Has: true, At: nought}, Hi: api.Bound{Has: true, At: nought}}}, Rows: []api.Row{{Terms: []api.Term{{Coef: nought}}, Hi: api.Bound{Has: true, At: nought}}}}
		dualIs(t, p, "max : 0 | rm0 0 from 0 to none | vp0 0 from 0 to none | vm0 0 from 0 to none | x0: 1@1 -1@2 from 0 to 0")
	}
	great := api.Bound{Has: true, At: odd("36893488147419103232/3")}
	p := api.Problem{Const: odd("-1/2"), Vars: []api.Var{{Obj: odd("3/4"), Lo: great}}, Rows: []api.Row{{Terms: []api.Term{{Coef: odd("-5/7")}}, Hi: great}}}
	dualIs(t, p, "max : -1/2 | rm0 -36893488147419103232/3 from 0 to none | vp0 36893488147419103232/3 from 0 to none | x0: 5/7@0 1@1 from 3/4 to 3/4")
}

// P17.10: each pair of verdicts, in either sense.
func TestVerdictsOfDuals(t *testing.T) {
	for text, want := range map[string]string{
		"min 2 x + 3 y + 1 st x + y >= 4 bounds x <= 3": "optimal 10, optimal 10",
		"max 3 x + 5 y st x + y <= 4 x + 3 y <= 6":      "optimal 14, optimal 14",
		"min x st x + y >= 1 x - y = 1/2":               "optimal 3/4, optimal 3/4",
		"min - x st x >= 1":                             "unbounded, infeasible",
		"max x + y st x - y <= 1":                       "unbounded, infeasible",
		"min x st x >= 3 bounds x <= 2":                 "infeasible, unbounded",
		"max x st x <= 1 bounds x >= 2":                 "infeasible, unbounded",
		"min x + y st y >= 0 bounds 3 <= x <= 2":        "infeasible, unbounded",
		"min - x - y st x - y >= 1 y - x >= 1":          "infeasible, infeasible",
		"max x + y st x - y >= 1 y - x >= 1":            "infeasible, infeasible",
		"min x + 7 st bounds x free":                    "unbounded, infeasible",
		"min 0 x + 7 st bounds x free":                  "optimal 7, optimal 7",
	} {
		p := problem(text)
		var got []string
		for _, q := range []api.Problem{p, span.Dual(p)} {
			c := back.Solve(q)
			if !isProof(q, c) {
				t.Errorf("%s isn't solved", told(q))
			}
			got = append(got, verdictOf(c.Verdict))
			if c.Verdict == api.Optimal {
				got[len(got)-1] += " " + numberOf(c.Value)
			}
		}
		if strings.Join(got, ", ") != want {
			t.Errorf("%s: %v, want %s", text, got, want)
		}
	}
}

// What comes out is a problem as any: Tidy has nothing to do, and its dual has the same value.
func TestDualOfDual(t *testing.T) {
	p := problem("min 2 x + 3 y + 1 st r: x + y >= 4 bounds x <= 3")
	d := span.Dual(p)
	if told(model.Tidy(d)) != told(d) {
		t.Error(told(d))
	}
	dualIs(t, d, "min : 1 | rp0 2 from 0 to none | rm0 -2 from 0 to none | rp1 3 from 0 to none | rm1 -3 from 0 to none | vm0 0 from 0 to none | vm1 0 from 0 to none | vm2 0 from 0 to none | vm3 0 from 0 to none"+
		" | x0: 1@0 -1@1 1@2 -1@3 -1@4 from 4 to 4 | x1: 1@0 -1@1 -1@5 from 0 to 0 | x2: -1@0 1@1 -1@6 from -3 to -3 | x3: 1@2 -1@3 -1@7 from 0 to 0")
	if c := back.Solve(span.Dual(d)); c.Verdict != api.Optimal || numberOf(c.Value) != "10" {
		t.Errorf("%s %s", verdictOf(c.Verdict), numberOf(c.Value))
	}
}

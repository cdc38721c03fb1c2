package back_test

import (
	"testing"

	"vertex/api"
	"vertex/back"
)

// The chapter's examples, whole.
func TestExamples(t *testing.T) {
	solves(t, "max 3 x + 5 y st x + y <= 4 x + 3 y <= 6", "optimal 14, X 3 1, Y 2 1")
	solves(t, "min x st x >= 3 x <= 1 bounds x free", "infeasible, Y 1 -1")
	solves(t, "max x - y st x - y >= 0", "unbounded, X 0 0, Ray 1 0")
	solves(t, "min 7 st", "optimal 7")
	solves(t, "min x st bounds 2 <= x <= 5", "optimal 2, X 2")
}

// P13.4: problems without rows: variables' own bounds are all that bears.
func TestNoRows(t *testing.T) {
	solves(t, "min x + 7 st bounds x >= 2", "optimal 9, X 2")
	solves(t, "max x + 7 st bounds -inf <= x <= 5/2", "optimal 19/2, X 5/2")
	solves(t, "max 3 x - 2 y st bounds 1 <= x <= 4 -1 <= y <= 1/3", "optimal 14, X 4 -1")
	solves(t, "min 3 x - 2 y st bounds 1 <= x <= 4 -1 <= y <= 1/3", "optimal 7/3, X 1 1/3")
	solves(t, "min 0 x st bounds x free", "optimal 0, X 0")
	solves(t, "min x st bounds x free", "unbounded, X 0, Ray -1")
	solves(t, "max x st bounds x free", "unbounded, X 0, Ray 1")
	solves(t, "min x st bounds -inf <= x <= 5", "unbounded, X 5, Ray -1")
	solves(t, "max x st bounds x >= -3", "unbounded, X -3, Ray 1")
	solves(t, "max -7 st", "optimal -7")
	solves(t, "min x st bounds x = 3", "optimal 3, X 3")
	solves(t, "max x st bounds 3 <= x <= 1", "infeasible")
}

// P13.4: problems without variables: a row's sum is nought.
func TestNoVariables(t *testing.T) {
	for _, x := range []struct {
		lo, hi api.Bound
		want   string
	}{
		{hasNot("3"), hasNot("-3"), "optimal 5, Y 0"},
		{has("0"), hasNot("-3"), "optimal 5, Y 0"},
		{has("-2"), has("0"), "optimal 5, Y 0"},
		{has("0"), has("0"), "optimal 5, Y 0"},
		{has("1"), hasNot("-3"), "infeasible, Y 1"},
		{hasNot("3"), has("-1/2"), "infeasible, Y -1"},
		{has("2"), has("2"), "infeasible, Y 1"},
	} {
		for _, sense := range []bool{false, true} {
			p := api.Problem{Max: sense, Const: num("5"), Rows: []api.Row{{Lo: x.lo, Hi: x.hi, Terms: []api.Term{{Var: 0, Coef: num("4")}}}}}
			if got := told(back.Solve(p)); got != x.want {
				t.Errorf("%s: %s, want %s", shown(p), got, x.want)
			}
		}
	}
	if got := told(back.Solve(api.Problem{})); got != "optimal 0" {
		t.Errorf("of the zero problem: %s", got)
	}
}

// P13.4: variables of all kinds, where a row bears, and where a bound of their own does.
func TestVariablesOfAllKinds(t *testing.T) {
	solves(t, "min x st x >= -3 bounds x free", "optimal -3, X -3, Y 1")
	solves(t, "max 2 x st x <= -3 bounds x free", "optimal -6, X -3, Y 2")
	solves(t, "min x st x >= 3 bounds 2 <= x <= 5", "optimal 3, X 3, Y 1")
	solves(t, "min x st x >= 1 bounds 2 <= x <= 5", "optimal 2, X 2, Y 0")
	solves(t, "max x st x <= 4 bounds 2 <= x <= 5", "optimal 4, X 4, Y 1")
	solves(t, "max x st x <= 7 bounds 2 <= x <= 5", "optimal 5, X 5, Y 0")
	solves(t, "max x st x <= 7 bounds -inf <= x <= 5", "optimal 5, X 5, Y 0")
	solves(t, "min x st x >= -7 bounds -inf <= x <= 5", "optimal -7, X -7, Y 1")
	solves(t, "min x st x >= 3 bounds x <= 2", "infeasible, Y 1")
	solves(t, "max x st x >= 3 bounds x <= 2", "infeasible, Y 1")
	solves(t, "min x st x <= 3 bounds x >= 4", "infeasible, Y -1")
	solves(t, "max 0 x + y st 2 x - y = 0 bounds x >= 1 y free", "unbounded, X 1 2, Ray 1 2")
	solves(t, "min 0 x + y st 2 x + y = 0 bounds x >= 1 y free", "unbounded, X 1 -2, Ray 1 -2")
}

// P13.4: rows with both bounds, with alike ones, and with none.
func TestRowsOfAllKinds(t *testing.T) {
	solves(t, "max 2 x + y st 1 <= x + y <= 4", "optimal 8, X 4 0, Y 2")
	solves(t, "min 2 x + y st 1 <= x + y <= 4", "optimal 1, X 0 1, Y 1")
	solves(t, "min - x st 1 <= x <= 4", "optimal -4, X 4, Y -1")
	solves(t, "max - x st 1 <= x <= 4", "optimal -1, X 1, Y -1")
	solves(t, "min 2 x + y st x + y = 3", "optimal 3, X 0 3, Y 1")
	solves(t, "max 2 x + y st x + y = 3", "optimal 6, X 3 0, Y 2")
	solves(t, "min 2 x + y st x + y = -3", "infeasible, Y -1")
	solves(t, "min x st x >= -inf c: 2 x >= 5 x <= inf", "optimal 5/2, X 5/2, Y 0 1/2 0")
	solves(t, "min x st -5 <= x <= -1 bounds x free", "optimal -5, X -5, Y 1")
	solves(t, "max x st -5 <= x <= -1", "infeasible, Y -1")
}

// P13.4: whole variables are taken as any.
func TestWholeVariables(t *testing.T) {
	solves(t, "max x st 2 x <= 3", "optimal 3/2, X 3/2, Y 1/2")
	solves(t, "max x st 2 x <= 3 general x", "optimal 3/2, X 3/2, Y 1/2")
	solves(t, "min x st bounds 1/3 <= x <= 2/3 general x", "optimal 1/3, X 1/3")
	solves(t, "max x + y st 2 x + 2 y = 1 x - y = 0 binary x y", "optimal 1/2, X 1/4 1/4, Y 1/2 0")
}

// P13.4: crossed bounds of a row or of a variable are met by nothing, in either sense.
func TestCrossedBounds(t *testing.T) {
	for _, text := range []string{"min x st 3 <= x <= 1", "max x st 3 <= x <= 1", "min x st bounds 3 <= x <= 1", "max x st x + y >= 2 bounds 3 <= x <= 1", "min st 0 <= x <= -1/1000000000000000000000 y >= 1 bounds x free y free"} {
		c := back.Solve(problem(text))
		if c.Verdict != api.Infeasible || len(c.X)+len(c.Ray) > 0 || len(c.Y) != len(problem(text).Rows) {
			t.Errorf("%s: %s", text, told(c))
		}
	}
}

// R6: terms of one variable add up, those of no variable don't count; numbers may be told in any form, and be great.
func TestProblemsByHand(t *testing.T) {
	p := api.Problem{
		Max:   true,
		Const: odd("1/2"),
		Vars:  []api.Var{{Obj: odd("3"), Lo: api.Bound{Has: true, At: noughts()[4]}, Hi: hasNot("-9")}, {Obj: odd("5"), Lo: api.Bound{Has: true}}},
		Rows: []api.Row{
			{Terms: []api.Term{{Var: 1, Coef: odd("1")}, {Var: 2, Coef: odd("7")}, {Var: 0, Coef: odd("-2")}, {Var: -1, Coef: odd("7")}, {Var: 0, Coef: odd("3")}}, Hi: api.Bound{Has: true, At: odd("4")}},
			{Terms: []api.Term{{Var: 0, Coef: odd("1")}, {Var: 1, Coef: odd("3")}, {Var: 1, Coef: noughts()[3]}}, Lo: hasNot("100"), Hi: api.Bound{Has: true, At: odd("6")}},
		},
	}
	if got := told(back.Solve(p)); got != "optimal 29/2, X 3 1, Y 2 1" {
		t.Errorf("%s", got)
	}
	solves(t, "max 18446744073709551616 x st 1/36893488147419103232 x <= 1/3", "optimal 680564733841876926926749214863536422912/3, X 36893488147419103232/3, Y 680564733841876926926749214863536422912")
}

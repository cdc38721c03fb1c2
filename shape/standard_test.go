package shape_test

import (
	"strings"
	"testing"

	"vertex/api"
	"vertex/shape"
)

// The chapter's examples.
func TestExamples(t *testing.T) {
	stands(t, problem("min 2 x + 3 st x >= 4 bounds x >= 1"), "1 -1 = 3; C 2 0; K 5")
	stands(t, second(), "-1 -1 0 = -6; 0 1 1 = 4; C 1 0 0; K -5")
	stands(t, problem("min y st bounds y free 0 <= z <= 2"), "0 0 1 1 = 2; C 1 -1 0 0; K 0")
	fourth := api.Problem{Vars: []api.Var{{Obj: num("1"), Lo: has("0")}}, Rows: []api.Row{
		{Terms: []api.Term{term(0, "1"), term(0, "1")}, Lo: has("4"), Hi: has("4")},
		{Terms: []api.Term{term(0, "3")}, Lo: has("7"), Hi: has("1")},
		{Terms: []api.Term{term(0, "1")}},
	}}
	stands(t, fourth, "2 0 0 = 4; 3 -1 0 = 7; 0 1 1 = -6; C 1 0 0; K 0")
}

// P10.1: a shape is there, and its standard's lists fit, also of problems without variables, without rows, without anything.
func TestProblemsThatLackThings(t *testing.T) {
	for _, x := range []struct{ text, want string }{
		{"min st", "C; K 0"},
		{"max st", "C; K 0"},
		{"min 7 st", "C; K 7"},
		{"max 7 - 1/2 st", "C; K -13/2"},
		{"min 2 x + y st bounds y free", "C 2 1 -1; K 0"},
		{"min st 0 x >= - inf bounds x free", "C 0 0; K 0"},
		{"max 1 st bounds 1 <= x <= 3", "1 1 = 2; C 0 0; K -1"},
	} {
		stands(t, problem(x.text), x.want)
	}
	for _, p := range []api.Problem{{}, {Max: true}, {Vars: []api.Var{}, Rows: []api.Row{}}} {
		if s := shape.Make(p); s == nil {
			t.Fatalf("Make(%v) is nil", p)
		}
		stands(t, p, "C; K 0")
	}
	bounded := []api.Row{{}, {Lo: has("3")}, {Hi: has("-2")}, {Lo: has("5"), Hi: has("5")}, {Lo: has("1"), Hi: has("4")}, {Terms: []api.Term{term(0, "9"), term(-1, "2")}, Lo: has("4"), Hi: has("1")}}
	stands(t, api.Problem{Max: true, Const: num("2"), Rows: bounded}, "-1 0 0 0 0 0 = 3; 0 1 0 0 0 0 = -2; 0 0 0 0 0 0 = 5; 0 0 -1 0 0 0 = 1; 0 0 1 1 0 0 = 3; 0 0 0 0 -1 0 = 4; 0 0 0 0 1 1 = -3; C 0 0 0 0 0 0; K -2")
	stands(t, api.Problem{Rows: []api.Row{{Lo: has("5"), Hi: has("5")}, {}}}, "= 5; C; K 0")
}

// P10.2 to P10.4: each kind of a variable's bounds, in both senses.
func TestKindsOfVariables(t *testing.T) {
	for _, x := range []struct {
		lo, hi       api.Bound
		small, great string
	}{
		{has("2"), hasNot("9"), "3 1 = -1; C 5 0; K 11", "3 1 = -1; C -5 0; K -11"},
		{has("-2"), hasNot("-2"), "3 1 = 11; C 5 0; K -9", "3 1 = 11; C -5 0; K 9"},
		{hasNot("1"), has("4"), "-3 1 = -7; C -5 0; K 21", "-3 1 = -7; C 5 0; K -21"},
		{has("1"), has("4"), "3 1 0 = 2; 1 0 1 = 3; C 5 0 0; K 6", "3 1 0 = 2; 1 0 1 = 3; C -5 0 0; K -6"},
		{has("4"), has("4"), "3 1 0 = -7; 1 0 1 = 0; C 5 0 0; K 21", "3 1 0 = -7; 1 0 1 = 0; C -5 0 0; K -21"},
		{has("4"), has("1/2"), "3 1 0 = -7; 1 0 1 = -7/2; C 5 0 0; K 21", "3 1 0 = -7; 1 0 1 = -7/2; C -5 0 0; K -21"},
		{hasNot("4"), hasNot("1"), "3 -3 1 = 5; C 5 -5 0; K 1", "3 -3 1 = 5; C -5 5 0; K -1"},
	} {
		for _, whole := range []bool{false, true} {
			p := api.Problem{Const: num("1"), Vars: []api.Var{{Obj: num("5"), Lo: x.lo, Hi: x.hi, Whole: whole}}, Rows: []api.Row{{Terms: []api.Term{term(0, "3")}, Hi: has("5")}}}
			stands(t, p, x.small)
			p.Max = true
			stands(t, p, x.great)
		}
	}
}

// P10.3: each kind of a row's bounds, of a variable that counts up, of one that counts down and of a free one.
func TestKindsOfRows(t *testing.T) {
	for _, x := range []struct {
		lo, hi api.Bound
		want   string
	}{
		{hasNot("3"), hasNot("8"), ""},
		{has("3"), hasNot("8"), "2 -1 4 -4 -1 = 9; "},
		{hasNot("3"), has("8"), "2 -1 4 -4 1 = 14; "},
		{has("3"), has("3"), "2 -1 4 -4 = 9; "},
		{has("3"), has("8"), "2 -1 4 -4 -1 0 = 9; 0 0 0 0 1 1 = 5; "},
		{has("8"), has("3"), "2 -1 4 -4 -1 0 = 14; 0 0 0 0 1 1 = -5; "},
		{has("-100"), has("-99"), "2 -1 4 -4 -1 0 = -94; 0 0 0 0 1 1 = 1; "},
		{has("0"), has("0"), "2 -1 4 -4 = 6; "},
	} {
		p := problem("min st 2 x + y + 4 z >= 0 bounds x >= -11/2 -inf <= y <= 5 z free")
		p.Rows[0].Lo, p.Rows[0].Hi = x.lo, x.hi
		slacks := 0
		if first, _, found := strings.Cut(x.want, " = "); found {
			slacks = len(strings.Fields(first)) - 4
		}
		stands(t, p, x.want+"C 0 0 0 0"+strings.Repeat(" 0", slacks)+"; K 0")
	}
}

// P10.2: the columns of variables come first, in order; the slacks behind them, in the order of the rows in which they first stand.
func TestOrderOfColumns(t *testing.T) {
	p := problem("min a + 2 b + 3 c + 4 d st a + b + c + d >= 1 1 <= b <= 2 c = 7 d >= - inf 5 >= a 3 <= d <= 8 bounds 0 <= a <= 1 b free -inf <= c <= 10 1 <= d <= 1")
	stands(t, p, "1 1 -1 -1 1 -1 0 0 0 0 0 0 0 = -10; "+
		"0 1 -1 0 0 0 -1 0 0 0 0 0 0 = 1; 0 0 0 0 0 0 1 1 0 0 0 0 0 = 1; "+
		"0 0 0 -1 0 0 0 0 0 0 0 0 0 = -3; "+
		"1 0 0 0 0 0 0 0 1 0 0 0 0 = 5; "+
		"0 0 0 0 1 0 0 0 0 -1 0 0 0 = 2; 0 0 0 0 0 0 0 0 0 1 1 0 0 = 5; "+
		"1 0 0 0 0 0 0 0 0 0 0 1 0 = 1; 0 0 0 0 1 0 0 0 0 0 0 0 1 = 0; "+
		"C 1 2 -2 -3 4 0 0 0 0 0 0 0 0; K 34")
	stands(t, problem("max 2 x + y st bounds 0 <= y <= 2 -3 <= x <= 4"), "1 0 1 0 = 7; 0 1 0 1 = 2; C -2 -1 0 0; K 6")
}

// P10.3: terms of one variable add up, also to nought; those of no variable don't count, also in what is constant; rows without terms are rows.
func TestTermsByHand(t *testing.T) {
	vars := []api.Var{{Lo: has("2")}, {Hi: has("3")}, {}}
	row := func(terms ...api.Term) api.Row { return api.Row{Terms: terms, Lo: has("1"), Hi: has("1")} }
	stands(t, api.Problem{Vars: vars, Rows: []api.Row{
		row(term(2, "4"), term(0, "1"), term(2, "1/2"), term(0, "-3"), term(1, "2"), term(2, "-1")),
		row(term(1, "2"), term(1, "-2"), term(0, "0"), term(2, "7"), term(2, "-7")),
		row(term(3, "5"), term(-1, "6"), term(1<<62, "7"), term(-1<<63, "8"), term(0, "1")),
		row(term(3, "5")),
		row(),
	}}, "-2 -2 7/2 -7/2 = -1; 0 0 0 0 = 1; 1 0 0 0 = -1; 0 0 0 0 = 1; 0 0 0 0 = 1; C 0 0 0 0; K 0")
}

// P10.3: right sides below 0 are not turned, nor are those that come to be below 0 by a constant.
func TestRightSidesBelowNought(t *testing.T) {
	stands(t, problem("min x st x >= -3 -x <= -4 -2 x = -6"), "1 -1 0 = -3; -1 0 1 = -4; -2 0 0 = -6; C 1 0 0; K 0")
	stands(t, problem("min st x <= 1 x = 1 1 <= x <= 4 bounds x >= 2"), "1 1 0 0 = -1; 1 0 0 0 = -1; 1 0 -1 0 = -1; 0 0 1 1 = 3; C 0 0 0 0; K 0")
}

// P10.4: K is Const and what is constant in the objective, all variables' together, turned in a Max problem.
func TestCosts(t *testing.T) {
	text := " 2 x - 3 y + 1/2 z + 4 u - 5 st bounds x >= 3 -inf <= y <= 1/3 z free -1 <= u <= -1"
	stands(t, problem("min"+text), "0 0 0 0 1 1 = 0; C 2 3 1/2 -1/2 4 0; K -4")
	stands(t, problem("max"+text), "0 0 0 0 1 1 = 0; C -2 -3 -1/2 1/2 -4 0; K 4")
	stands(t, problem("max x - y st bounds x >= 7 y >= 7"), "C -1 1; K 0")
}

// Numbers that are told otherwise than in the one form count for what they are, and are answered in it; a number in a bound that isn't there doesn't count.
func TestNumbersInOtherForms(t *testing.T) {
	is := func(s string) api.Bound { return api.Bound{Has: true, At: odd(s)} }
	stands(t, api.Problem{
		Max:   true,
		Const: odd("1/2"),
		Vars:  []api.Var{{Obj: odd("3"), Lo: is("-5/3"), Hi: api.Bound{At: odd("9")}}, {Obj: odd("-1"), Lo: hasNot("3"), Hi: is("2")}},
		Rows: []api.Row{
			{Terms: []api.Term{{Coef: odd("2/3")}, {Var: 1, Coef: odd("7")}}, Lo: is("4"), Hi: has("4")},
			{Terms: []api.Term{{Coef: odd("2")}}, Lo: is("18446744073709551616"), Hi: is("36893488147419103232")},
		},
	}, "2/3 -7 0 0 = -80/9; 2 0 -1 0 = 55340232221128654858/3; 0 0 1 1 = 18446744073709551616; C -3 -1 0 0; K 13/2")
	for _, a := range noughts() {
		for _, b := range noughts() {
			at, other := api.Bound{Has: true, At: a}, api.Bound{Has: true, At: b}
			stands(t, api.Problem{
				Const: a,
				Vars:  []api.Var{{Obj: b, Lo: at, Hi: other}, {Obj: a}, {Obj: num("2"), Hi: other}},
				Rows:  []api.Row{{Terms: []api.Term{{Coef: a}, {Var: 2, Coef: b}, {Var: 1, Coef: num("3")}}, Lo: at, Hi: other}},
			}, "0 3 -3 0 0 = 0; 1 0 0 0 1 = 0; C 0 0 0 -2 0; K 0")
		}
	}
}

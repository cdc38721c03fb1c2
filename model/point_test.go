package model_test

import (
	"testing"

	"vertex/api"
	"vertex/model"
)

// comes asks for the value and the rows' sums at a list of numbers.
func comes(t *testing.T, p api.Problem, x []api.Rat, value, sums string) {
	t.Helper()
	if got := numberOf(model.Value(p, x)); got != value {
		t.Errorf("Value(%s, %s): %s, want %s", told(p), numbersOf(x), got, value)
	}
	if got := model.Sums(p, x); numbersOf(got) != sums || len(got) != len(p.Rows) {
		t.Errorf("Sums(%s, %s): %s, want %s", told(p), numbersOf(x), numbersOf(got), sums)
	}
}

// judged asks whether a list of numbers holds, and whether it is whole where it must be.
func judged(t *testing.T, p api.Problem, x []api.Rat, holds, whole bool) {
	t.Helper()
	if got := model.Holds(p, x); got != holds {
		t.Errorf("Holds(%s, %s): %v", told(p), numbersOf(x), got)
	}
	if got := model.Whole(p, x); got != whole {
		t.Errorf("Whole(%s, %s): %v", told(p), numbersOf(x), got)
	}
}

// The chapter's examples, and lists that are too short, too long and empty: P7.7 to P7.9.
func TestExamplesOfPoints(t *testing.T) {
	p := chapters()
	comes(t, p, list("1/2 1/2"), "3/2", "1 0")
	comes(t, p, list("1"), "1", "1 1")
	comes(t, p, list("1/2 1/2 9"), "3/2", "1 0")
	comes(t, p, nil, "0", "0 0")
	comes(t, p, []api.Rat{}, "0", "0 0")
	comes(t, p, list("0 0 1 1 1 1"), "0", "0 0")
	for s, want := range map[string][2]bool{
		"1/2 1/2": {true, false}, "1/2": {false, false}, "2 2": {false, true}, "1/2 1": {false, true}, "1 1": {true, true}, "1 1 1": {false, false},
		"": {false, false}, "1": {false, false}, "1/3 1/3": {false, false}, "3/4 3/4": {true, false}, "1 1 0": {false, false}, "-1 -1": {false, true},
	} {
		judged(t, p, list(s), want[0], want[1])
	}
}

// P7.7: Const counts; terms of one variable add up; those of no variable don't count, whatever the list.
func TestValueAndSumsByHand(t *testing.T) {
	p := api.Problem{
		Max:   true,
		Const: odd("5/2"),
		Vars:  []api.Var{{Obj: odd("1/3"), Lo: has("7")}, {Hi: has("-7")}, {Obj: num("-2"), Whole: true}},
		Rows: []api.Row{
			{Terms: []api.Term{term(2, "1"), term(0, "1/2"), term(2, "1"), {Var: 0, Coef: odd("1/2")}}, Lo: has("99")},
			{Terms: []api.Term{term(-1, "1"), term(3, "1"), term(1, "1"), term(4, "1"), term(-5, "1")}, Hi: has("-99")},
			{Terms: []api.Term{term(1, "1"), term(1, "-1"), term(0, "0")}},
			{},
		},
	}
	comes(t, p, list("6 5 -1/2"), "11/2", "5 5 0 0")
	comes(t, p, []api.Rat{odd("6"), odd("5"), odd("-1/2")}, "11/2", "5 5 0 0")
	comes(t, p, list("6 5 -1/2 100 1000"), "11/2", "5 5 0 0")
	comes(t, p, list("6 5"), "9/2", "6 5 0 0")
	comes(t, p, list("6"), "9/2", "6 0 0 0")
	comes(t, p, nil, "5/2", "0 0 0 0")
	for _, nought := range noughts() {
		comes(t, p, []api.Rat{nought, num("1"), nought}, "5/2", "0 1 0 0")
	}
}

// P7.7 to P7.9: problems without variables, without rows, and without either.
func TestPointsOfSmallProblems(t *testing.T) {
	comes(t, api.Problem{}, nil, "0", "")
	comes(t, api.Problem{Const: num("3")}, list("1 2"), "3", "")
	judged(t, api.Problem{}, nil, true, true)
	judged(t, api.Problem{}, []api.Rat{}, true, true)
	judged(t, api.Problem{}, list("0"), false, false)
	rows := func(lo, hi api.Bound) api.Problem {
		return api.Problem{Rows: []api.Row{{Terms: []api.Term{term(0, "5")}, Lo: lo, Hi: hi}}}
	}
	for _, x := range []struct {
		lo, hi api.Bound
		holds  bool
	}{{has("0"), has("0"), true}, {has("-1"), has("1"), true}, {has("1"), api.Bound{}, false}, {api.Bound{}, has("-1"), false}, {hasNot("1"), hasNot("-1"), true}, {has("1"), has("-1"), false}, {has("0"), has("-1"), false}} {
		p := rows(x.lo, x.hi)
		comes(t, p, nil, "0", "0")
		comes(t, p, list("1"), "0", "0")
		judged(t, p, nil, x.holds, true)
		judged(t, p, list("0"), false, false)
	}
	free := api.Problem{Vars: []api.Var{{Obj: num("2")}, {Obj: num("3")}}}
	comes(t, free, list("1/2 1/3"), "2", "")
	judged(t, free, list("-1/2 1000"), true, true)
	judged(t, free, list("1"), false, false)
	judged(t, free, nil, false, false)
	judged(t, free, list("1 2 3"), false, false)
}

// bounds are two bounds with numbers at them and just beside them, and whether these keep to them.
var bounds = []struct {
	lo, hi  api.Bound
	in, out string
}{
	{api.Bound{}, api.Bound{}, "0 -1e40 1e40", ""},
	{hasNot("5"), hasNot("-5"), "0 6 -6 1e40 -1e40", ""},
	{has("0"), api.Bound{}, "0 1e-40 1e40", "-1e-40 -1"},
	{api.Bound{}, has("0"), "0 -1e-40 -1e40", "1e-40 1"},
	{has("-7/3"), hasNot("-3"), "-7/3 -2 0 -2333333333333333333333/1000000000000000000000", "-2333333333333333333334/1000000000000000000000 -3"},
	{hasNot("3"), has("2/3"), "2/3 0 -9 666666666666666666/1000000000000000000", "666666666666666667/1000000000000000000 1"},
	{has("1"), has("3"), "1 3 2 1.00000000000000000001 2.9999999999999999999", "0.99999999999999999999 3.00000000000000000001 0 4"},
	{has("2"), has("2"), "2", "1.99999999999999999999 2.00000000000000000001 -2"},
	{has("2"), has("1"), "", "2 1 3/2 0 3"},
	{has("18446744073709551616"), api.Bound{}, "18446744073709551616 18446744073709551617", "18446744073709551615 0"},
	{api.Bound{Has: true, At: odd("-1/2")}, api.Bound{Has: true}, "-1/2 0 -1/4", "-51/100 1/100"},
}

// P7.8: a variable's number at its bounds and just beside them; a row's sum likewise.
func TestBounds(t *testing.T) {
	for _, b := range bounds {
		p := api.Problem{Vars: []api.Var{{}, {Lo: b.lo, Hi: b.hi}, {}}}
		q := api.Problem{Vars: make([]api.Var, 3), Rows: []api.Row{{}, {Terms: []api.Term{term(1, "1")}, Lo: b.lo, Hi: b.hi}, {Terms: []api.Term{term(0, "1")}}}}
		h := api.Problem{Vars: make([]api.Var, 3), Rows: []api.Row{{Terms: []api.Term{term(2, "1/2"), term(0, "1"), term(1, "3/4"), term(3, "9"), term(1, "1/4"), term(-1, "9")}, Lo: b.lo, Hi: b.hi}}}
		for i, numbers := range []string{b.in, b.out} {
			for _, x := range list(numbers) {
				judged(t, p, []api.Rat{num("-9"), x, num("1e50")}, i == 0, true)
				judged(t, q, []api.Rat{num("-9"), x, num("1e50")}, i == 0, true)
				judged(t, h, []api.Rat{num("-9"), x, num("18")}, i == 0, true)
				judged(t, h, []api.Rat{x, {}, {}}, i == 0, true)
			}
		}
	}
}

// P7.8: each variable and each row counts, the first and the last, whatever the others; Whole doesn't.
func TestEachBoundCounts(t *testing.T) {
	for i := range 4 {
		p := api.Problem{Vars: make([]api.Var, 4)}
		for j := range p.Vars {
			p.Vars[j] = api.Var{Lo: has("0"), Hi: has("1"), Whole: j == i}
			p.Rows = append(p.Rows, api.Row{Terms: []api.Term{term(j, "2")}, Lo: has("0"), Hi: has("2")})
		}
		x := list("1/2 1/2 1/2 1/2")
		judged(t, p, x, true, false)
		x[i] = num("1")
		judged(t, p, x, true, true)
		p.Rows[i].Hi = has("3/2")
		judged(t, p, x, false, true)
		p.Rows[i].Hi = has("2")
		p.Vars[i].Hi = has("3/4")
		judged(t, p, x, false, true)
		p.Vars[i].Hi = hasNot("3/4")
		judged(t, p, x, true, true)
	}
}

// P7.9: numbers that are whole, however they are told, and others; only those of whole variables count.
func TestWhole(t *testing.T) {
	p := api.Problem{Vars: []api.Var{{Lo: has("5")}, {Whole: true, Hi: has("-5")}, {}}, Rows: []api.Row{{Lo: has("1")}}}
	for s, want := range map[string]bool{"0": true, "1": true, "-7": true, "18446744073709551617": true, "1/2": false, "-1/3": false, "1e-40": false, "36893488147419103233/2": false} {
		for _, x := range []api.Rat{num(s), odd(s)} {
			judged(t, p, []api.Rat{num("1/2"), x, num("-1/2")}, false, want)
			judged(t, p, []api.Rat{num("1"), x}, false, false)
			judged(t, p, []api.Rat{num("1"), x, num("1"), num("1")}, false, false)
		}
	}
	for _, nought := range noughts() {
		judged(t, p, []api.Rat{num("1/2"), nought, num("1/2")}, false, true)
	}
}

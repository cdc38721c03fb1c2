package model_test

import (
	"testing"

	"vertex/api"
	"vertex/model"
)

// tidies asks for a problem's one form, and for that one's.
func tidies(t *testing.T, p api.Problem, want string) {
	t.Helper()
	once := model.Tidy(p)
	if told(once) != want {
		t.Errorf("Tidy(%v): %s, want %s", p, told(once), want)
	}
	if again := model.Tidy(once); told(again) != want {
		t.Errorf("Tidy of Tidy(%v): %s, want %s", p, told(again), want)
	}
}

// term is a term by hand.
func term(place int, coef string) api.Term { return api.Term{Var: place, Coef: num(coef)} }

// The chapter's example.
func TestExampleOfTidy(t *testing.T) {
	p := chapters()
	p.Rows = []api.Row{{Name: "a", Terms: []api.Term{term(1, "2"), term(0, "3"), term(1, "-2"), term(7, "5"), term(0, "0")}}}
	tidies(t, p, "min : 0 | x 1 from 0 to none | y 2 from 0 to 1 whole | a: 3@0 from none to none")
}

// P7.6: terms by rising Var, added up, those of nought and those of no variable left out.
func TestTidyTerms(t *testing.T) {
	for _, x := range []struct {
		vars  int
		terms []api.Term
		want  string
	}{
		{3, nil, ""},
		{3, []api.Term{}, ""},
		{3, []api.Term{term(2, "1"), term(1, "2"), term(0, "3")}, " 3@0 2@1 1@2"},
		{3, []api.Term{term(0, "0"), term(1, "0"), term(2, "-1")}, " -1@2"},
		{3, []api.Term{term(1, "1"), term(1, "1"), term(1, "1")}, " 3@1"},
		{3, []api.Term{term(1, "1/3"), term(2, "1/2"), term(1, "1/6"), term(2, "-1/2"), term(1, "1/2")}, " 1@1"},
		{3, []api.Term{term(1, "1"), term(0, "5"), term(1, "-1")}, " 5@0"},
		{3, []api.Term{term(-1, "1"), term(3, "1"), term(2, "1"), term(4, "9"), term(-7, "2")}, " 1@2"},
		{3, []api.Term{term(1<<62, "1"), term(-1<<63, "1"), term(1<<32, "1"), term(1<<32+1, "1")}, ""},
		{1, []api.Term{term(1, "1"), term(0, "1"), term(-1, "1")}, " 1@0"},
		{0, []api.Term{term(0, "1"), term(-1, "1"), term(1, "1")}, ""},
		{2, []api.Term{{Var: 1, Coef: odd("3/4")}, {Var: 0, Coef: odd("-2")}, {Var: 0, Coef: odd("4")}}, " 2@0 3/4@1"},
		{2, []api.Term{{Var: 0, Coef: odd("3/4")}, {Var: 0, Coef: num("-3/4")}, {Var: 1}}, ""},
	} {
		p := api.Problem{Vars: make([]api.Var, x.vars), Rows: []api.Row{{Name: "r", Terms: x.terms}}}
		want := "min : 0"
		for range x.vars {
			want += " |  0 from none to none"
		}
		tidies(t, p, want+" | r:"+x.want+" from none to none")
	}
}

// P7.6: numbers in their one form, and bounds that are absent with At 0, of variables and of rows.
func TestTidyNumbers(t *testing.T) {
	bound := func(s string) api.Bound { return api.Bound{Has: true, At: odd(s)} }
	tidies(t, api.Problem{Const: odd("-7/2"), Vars: []api.Var{{Obj: odd("5/3"), Lo: bound("-1"), Hi: bound("9/4")}}, Rows: []api.Row{{Lo: bound("1/7"), Hi: bound("-3")}}}, "min : -7/2 |  5/3 from -1 to 9/4 | : from 1/7 to -3")
	for _, nought := range noughts() {
		has, hasNot := api.Bound{Has: true, At: nought}, api.Bound{At: nought}
		tidies(t, api.Problem{Const: nought, Vars: []api.Var{{Obj: nought, Lo: has, Hi: hasNot}, {Lo: hasNot, Hi: has}}, Rows: []api.Row{{Terms: []api.Term{{Coef: nought}}, Lo: hasNot, Hi: has}, {Lo: has, Hi: hasNot}}},
			"min : 0 |  0 from 0 to none |  0 from none to 0 | : from none to 0 | : from 0 to none")
	}
	for _, s := range []string{"7", "-1/3", "18446744073709551616"} {
		tidies(t, api.Problem{Vars: []api.Var{{Lo: hasNot(s), Hi: hasNot(s)}}, Rows: []api.Row{{Lo: hasNot(s), Hi: hasNot(s)}}}, "min : 0 |  0 from none to none | : from none to none")
	}
}

// P7.6: all else is as it stands, also what no text could say: names that are empty, twice, or no names; bounds that nothing meets.
func TestTidyLeavesTheRest(t *testing.T) {
	tidies(t, api.Problem{}, "min : 0")
	tidies(t, api.Problem{Max: true, Name: "a b"}, "max a b: 0")
	tidies(t, api.Problem{Name: "x", Vars: []api.Var{{Name: "x"}, {Name: "x", Whole: true}, {}, {Name: "\x00", Lo: has("2"), Hi: has("1")}}, Rows: []api.Row{{Name: "x"}, {}, {Name: "x"}, {Name: "R1", Lo: has("2"), Hi: has("1")}, {Name: "end"}}},
		"min x: 0 | x 0 from none to none | x 0 from none to none whole |  0 from none to none | \x00 0 from 2 to 1 | x: from none to none | : from none to none | x: from none to none | R1: from 2 to 1 | end: from none to none")
	tidies(t, chapters(), "min : 0 | x 1 from 0 to none | y 2 from 0 to 1 whole | a: 1@0 1@1 from 1 to 3 | b: 1@0 -1@1 from 0 to 0")
}

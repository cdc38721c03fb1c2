package trim_test

import (
	"math"
	"strconv"
	"testing"

	"vertex/api"
	"vertex/trim"
)

// The chapter's examples of what is left.
func TestExamples(t *testing.T) {
	leaves(t, problem("min x st r: 2 x >= 3"), "min : 3/2", 2)
	leaves(t, problem("min x + y st r: x + y >= 2 bounds x = 1"), "min : 2", 3)
	leaves(t, problem("min x st r: x >= 3 bounds x <= 2"), "min : 0 | x 1 from 0 to 2 | r: 1@0 from 3 to none", 0)
	leaves(t, problem("max x st r: - 2 x >= -6 s: 0 <= 1"), "max : 3", 3)
	leaves(t, problem("max x st r: - 2 x >= -6 s: 0 <= 1 bounds x free"), "max : 3", 3)
	leaves(t, problem("min - x st"), "min : 0 | x -1 from 0 to none", 0)
	leaves(t, problem("min x + y st r: x - x + y = 4 bounds x >= -1 y free"), "min : 3", 3)
	leaves(t, problem("min 0 x st bounds x free int x"), "min : 0", 1)
}

// end is a bound told as a text, "" being one that isn't there, though a number stands in it.
func end(s string) api.Bound {
	if s == "" {
		return hasNot("7")
	}
	return api.Bound{Has: true, At: odd(s)}
}

// P15.1: a row without terms goes just if its bounds, where they are there, let 0 be; else nothing is done.
func TestRowsWithoutTerms(t *testing.T) {
	for _, x := range []struct {
		lo, hi string
		goes   bool
	}{
		{"", "", true}, {"-1", "", true}, {"0", "", true}, {"1/3", "", false}, {"", "1", true}, {"", "0", true}, {"", "-1/3", false},
		{"-1", "1", true}, {"0", "0", true}, {"0", "1", true}, {"-1", "0", true}, {"1/2", "1", false}, {"-2", "-1/2", false},
		{"1", "-1", false}, {"1", "0", false}, {"0", "-1", false}, {"1", "1", false}, {"-1", "-1", false},
	} {
		for k, terms := range [][]api.Term{
			nil,
			{{Var: 0, Coef: noughts()[3]}},
			{{Var: 0, Coef: num("2")}, {Var: 0, Coef: odd("-2")}},
			{{Var: 1, Coef: num("2")}, {Var: -1, Coef: num("3")}, {Var: math.MaxInt, Coef: num("1")}, {Var: math.MinInt, Coef: num("1")}},
		} {
			// The variable has no best bound, and stays.
			p := api.Problem{Vars: []api.Var{{Name: "x", Obj: num("1")}}, Rows: []api.Row{{Name: "r", Terms: terms, Lo: end(x.lo), Hi: end(x.hi)}}}
			u := trim.Of(p)
			if goes := u.Steps() == 1; goes != x.goes || len(u.Problem().Rows) != 1-u.Steps() || len(u.Problem().Vars) != 1 {
				t.Errorf("from %q to %q, terms %d: %s, %d steps", x.lo, x.hi, k, told(u.Problem()), u.Steps())
			}
			if !x.goes {
				stays(t, p)
			}
		}
	}
}

// oneTerm is a problem with a row with one term, of x, and another one, which holds x there.
func oneTerm(ownLo, ownHi, coef, rowLo, rowHi string) api.Problem {
	return api.Problem{
		Vars: []api.Var{{Name: "x", Lo: end(ownLo), Hi: end(ownHi)}, {Name: "y"}},
		Rows: []api.Row{
			{Name: "r", Terms: []api.Term{{Var: 0, Coef: odd(coef)}}, Lo: end(rowLo), Hi: end(rowHi)},
			{Name: "k", Terms: []api.Term{{Var: 0, Coef: num("1")}, {Var: 1, Coef: num("1")}}, Lo: has("-9"), Hi: has("9")},
		},
	}
}

// P15.1: of a row with one term the variable's bounds become the tighter ones, and the row goes.
func TestRowsWithOneTerm(t *testing.T) {
	for _, x := range []struct{ ownLo, ownHi, coef, rowLo, rowHi, wantLo, wantHi string }{
		// No bound of the row; then one, of which the variable has none.
		{"", "", "2", "", "", "none", "none"}, {"1", "3", "-2", "", "", "1", "3"}, {"1", "", "2", "", "", "1", "none"},
		{"", "", "2", "3", "", "3/2", "none"}, {"", "", "2", "", "3", "none", "3/2"}, {"", "", "2", "-1", "3", "-1/2", "3/2"},
		{"", "", "-2", "3", "", "none", "-3/2"}, {"", "", "-2", "", "3", "-3/2", "none"}, {"", "", "-2", "-1", "3", "-3/2", "1/2"},
		{"", "2", "2", "3", "", "3/2", "2"}, {"1", "", "-1/2", "-1", "", "1", "2"}, {"", "4", "-1/3", "", "1", "-3", "4"},
		// Tighter, as tight and looser Los.
		{"1", "", "1", "2", "", "2", "none"}, {"2", "", "1", "2", "", "2", "none"}, {"3", "", "1", "2", "", "3", "none"},
		{"1", "", "-1", "", "-2", "2", "none"}, {"2", "", "-1", "", "-2", "2", "none"}, {"3", "", "-1", "", "-2", "3", "none"},
		// Tighter, as tight and looser His.
		{"", "3", "1", "", "2", "none", "2"}, {"", "2", "1", "", "2", "none", "2"}, {"", "1", "1", "", "2", "none", "1"},
		{"", "3", "-1", "-2", "", "none", "2"}, {"", "2", "-1", "-2", "", "none", "2"}, {"", "1", "-1", "-2", "", "none", "1"},
		// Both: the one tighter, the other one not.
		{"0", "9", "3", "6", "12", "2", "4"}, {"3", "9", "3", "6", "12", "3", "4"}, {"0", "3", "3", "6", "12", "2", "3"}, {"3", "7/2", "3", "6", "12", "3", "7/2"},
		{"0", "9", "-3", "-12", "-6", "2", "4"}, {"3", "9", "-3", "-12", "-6", "3", "4"}, {"0", "3", "-3", "-12", "-6", "2", "3"},
		// Below nought, and far off.
		{"-5", "-1", "1/7", "-4/7", "-2/7", "-4", "-2"}, {"0", "", "1/36893488147419103232", "1/2", "", "18446744073709551616", "none"},
	} {
		want := "min : 0 | x 0 from " + x.wantLo + " to " + x.wantHi + " | y 0 from none to none | k: 1@0 1@1 from -9 to 9"
		leaves(t, oneTerm(x.ownLo, x.ownHi, x.coef, x.rowLo, x.rowHi), want, 1)
	}
}

// P15.1: tighter bounds that would be crossed: nothing is done; such as touch are the variable's, which is fixed then.
func TestBoundsThatWouldBeCrossed(t *testing.T) {
	for _, x := range []struct{ ownLo, ownHi, coef, rowLo, rowHi string }{
		{"", "2", "1", "3", ""}, {"0", "2", "2", "5", "9"}, {"2", "", "1", "", "1"}, {"2", "5", "3", "", "5"},
		{"", "2", "-1", "", "-3"}, {"2", "", "-1", "-1", ""}, {"0", "2", "1", "18446744073709551617/9223372036854775808", ""},
		// The row's own are crossed, or the variable's.
		{"", "", "1", "3", "2"}, {"0", "9", "-1", "-2", "-3"}, {"3", "2", "1", "", ""}, {"3", "2", "1", "0", "9"}, {"3", "2", "-1", "-7", "-1"},
	} {
		stays(t, oneTerm(x.ownLo, x.ownHi, x.coef, x.rowLo, x.rowHi))
	}
	// x is 2: what is left of k are bounds of y, which goes at the first of them.
	for _, p := range []api.Problem{oneTerm("", "2", "1", "2", ""), oneTerm("2", "9", "-3", "-6", ""), oneTerm("", "", "1/2", "1", "1"), oneTerm("2", "2", "1", "2", "2"), oneTerm("2", "2", "1", "0", "9")} {
		leaves(t, p, "min : 0", 4)
		brings(t, p, optimal("0", "", ""), "optimal 0, X 2 -11, Y 0 0")
	}
}

// P15.1: rows are gone through in order, and what one does the next ones see.
func TestOneRowAfterAnother(t *testing.T) {
	leaves(t, problem("min x st a: x >= 2 b: x <= 1 bounds x free"), "min : 0 | x 1 from 2 to none | b: 1@0 from none to 1", 1)
	leaves(t, problem("min x st b: x <= 1 a: x >= 2 bounds x free"), "min : 0 | x 1 from none to 1 | a: 1@0 from 2 to none", 1)
	leaves(t, problem("max x st a: x >= 2 b: x <= 1 c: x <= 7 d: x >= 3 bounds x free"), "max : 0 | x 1 from 3 to 7 | b: 1@0 from none to 1", 3)
	leaves(t, problem("min x st a: x >= 2 b: 2 x >= 6 c: 3 x >= 6 d: x <= 3 bounds x free"), "min : 3", 5)
}

// R6: a variable's terms in a row add up; those of no variable don't count.
func TestTermsAddUp(t *testing.T) {
	leaves(t, problem("min y st r: 2 x + 3 x >= 5 k: x + y + z <= 9 bounds y free"), "min : 0 | y 1 from none to none | x 0 from 1 to none | z 0 from 0 to none | k: 1@0 1@1 1@2 from none to 9", 1)
	leaves(t, problem("min y st r: x + y - 3 x + 2 x >= 5 k: x + y + z <= 9 bounds y free"), "min : 0 | y 1 from 5 to none | x 0 from 0 to none | z 0 from 0 to none | k: 1@0 1@1 1@2 from none to 9", 1)
	leaves(t, problem("min y st r: x + y + z - z >= 5 k: x - y <= 9 bounds y free z <= 3"), "min : 0 | y 1 from none to none | x 0 from 0 to none | r: 1@0 1@1 from 5 to none | k: -1@0 1@1 from none to 9", 1)
	p := api.Problem{Vars: []api.Var{{Name: "x", Obj: num("1")}}, Rows: []api.Row{{Terms: []api.Term{{Var: 1, Coef: num("5")}, {Var: 0, Coef: num("3")}, {Var: -1, Coef: num("5")}, {Var: 0, Coef: num("-1")}}, Lo: has("7")}}}
	leaves(t, p, "min : 7/2", 2)
}

// P15.2: a fixed variable goes, in rows or in none, whatever the sense; Const and the bounds that are there have its part.
func TestFixed(t *testing.T) {
	rest := " | y 1 from 0 to none | z 1 from none to none | a: 1@0 1@1 from -4 to none | b: 1@0 -1@1 from none to 13/2 | c: 1@0 2@1 from -3/2 to 13/2 | d: 1@0 1@1 from none to none | e: 1@0 3@1 from 2 to 4"
	text := " cost: 3 x + y + z + 1 st a: 2 x + y + z >= 1 b: - x + y - z <= 4 c: 1 <= x + y + 2 z <= 9 d: 7 x + y + z >= -inf e: 2 <= y + 3 z <= 4 bounds z free x = 5/2"
	leaves(t, problem("min"+text), "min cost: 17/2"+rest, 1)
	leaves(t, problem("max"+text), "max cost: 17/2"+rest, 1)
	for _, x := range []api.Var{
		{Obj: odd("3"), Lo: api.Bound{Has: true, At: odd("-7/2")}, Hi: has("-7/2")},
		{Obj: num("21/2"), Lo: has("-1"), Hi: api.Bound{Has: true, At: odd("-1")}, Whole: true},
	} {
		leaves(t, api.Problem{Const: num("1/2"), Vars: []api.Var{x}}, "min : -10", 1)
		leaves(t, api.Problem{Const: num("1/2"), Vars: []api.Var{x}, Max: true}, "max : -10", 1)
	}
	for _, lo := range noughts() {
		for _, hi := range noughts() {
			leaves(t, api.Problem{Vars: []api.Var{{Obj: num("3"), Lo: api.Bound{Has: true, At: lo}, Hi: api.Bound{Has: true, At: hi}}}}, "min : 0", 1)
		}
	}
	// Of two alike numbers one may be absent: then nothing is fixed.
	stays(t, problem("min x - x st r: x + y >= 1 s: x - y <= 3 bounds x >= 2 y free"))
	stays(t, api.Problem{Vars: []api.Var{{Obj: num("1"), Lo: hasNot("2"), Hi: has("2")}, {Obj: num("-1"), Lo: has("2"), Hi: hasNot("2")}, {Obj: num("1")}}})
}

// P15.2: a variable in no row goes at its best bound, if that is there, and its bounds aren't crossed.
func TestInNoRow(t *testing.T) {
	for _, x := range []struct {
		obj    int
		lo, hi string
		at     string
	}{
		{1, "", "", "none"}, {1, "-2", "", "-2"}, {1, "", "5/3", "none"}, {1, "-2", "5/3", "-2"}, {1, "5/3", "-2", "none"}, {1, "4", "4", "4"},
		{-1, "", "", "none"}, {-1, "-2", "", "none"}, {-1, "", "5/3", "5/3"}, {-1, "-2", "5/3", "5/3"}, {-1, "5/3", "-2", "none"}, {-1, "4", "4", "4"},
		{0, "", "", "0"}, {0, "-2", "", "-2"}, {0, "", "5/3", "5/3"}, {0, "-2", "5/3", "-2"}, {0, "5/3", "-2", "none"}, {0, "4", "4", "4"},
	} {
		for _, max := range []bool{false, true} {
			obj := x.obj
			if max {
				obj = -obj
			}
			v := api.Var{Name: "x", Obj: odd(strconv.Itoa(3 * obj)), Lo: end(x.lo), Hi: end(x.hi), Whole: true}
			// The row has terms of it that come to nothing.
			p := api.Problem{Max: max, Const: num("1"), Vars: []api.Var{v, {Obj: num("1")}, {Obj: num("1")}}, Rows: []api.Row{{Terms: []api.Term{{Var: 0, Coef: num("1")}, {Var: 1, Coef: num("1")}, {Var: 0, Coef: num("-1")}, {Var: 2, Coef: num("1")}}}}}
			if x.at == "none" {
				stays(t, p)
				continue
			}
			constant := plus(toBig(num("1")), times(toBig(v.Obj), toBig(num(x.at))))
			leaves(t, p, senseOf(p)+" : "+constant.RatString()+" |  1 from none to none |  1 from none to none | : 1@0 1@1 from none to none", 1)
			brings(t, p, optimal("8", "5 6", "2"), "optimal 8, X "+x.at+" 5 6, Y 2")
			brings(t, p, unbounded("5 6", "1 -1"), "unbounded, X "+x.at+" 5 6, Ray 0 1 -1")
		}
	}
}

// P15.1: a pass may make another one necessary, and that the next; a last one changes nothing.
func TestPasses(t *testing.T) {
	// Each row waits for the variable behind it.
	leaves(t, problem("min a + b + c + d st p: a - b = 1 q: b - c = 1 r: c - d = 1 s: d = 1 bounds a free b free c free"), "min : 10", 8)
	leaves(t, problem("min a + b + c + d + e st p: a - b + e >= 1 q: b - c = 1 r: c - d = 1 s: d = 1 bounds a free b free c free e free"), "min : 6 | a 1 from none to none | e 1 from none to none | p: 1@0 1@1 from 4 to none", 6)
	// a goes behind b in the first pass, so s is but a bound of b in the second, as tight as b's own, and looser.
	leaves(t, problem("max b - a st s: a + b <= 4 bounds b <= 3 a = 1"), "max : 2", 3)
	leaves(t, problem("max b - a st s: a + b <= 9 bounds b <= 3 a = 1"), "max : 2", 3)
	leaves(t, problem("min x + y st r: x + y >= 2 s: x + z >= 1 bounds y = 3"), "min : 3 | x 1 from 0 to none | z 0 from 0 to none | s: 1@0 1@1 from 1 to none", 2)
	// A variable that is fixed leaves a row without terms that can't be met: it stays.
	leaves(t, problem("min x st r: x >= 3 s: 2 x = 5 bounds x = 2"), "min : 2 | r: from 1 to none | s: from 1 to 1", 1)
}

// A chain as long as it may be: a pass for each of its rows.
func TestManyPasses(t *testing.T) {
	p := api.Problem{}
	const n = 300
	for range n {
		p.Vars = append(p.Vars, api.Var{Obj: num("1")})
	}
	for i := range n - 1 {
		p.Rows = append(p.Rows, api.Row{Terms: []api.Term{{Var: i, Coef: num("1")}, {Var: i + 1, Coef: num("-1")}}, Lo: has("1"), Hi: has("1")})
	}
	p.Vars[n-1].Lo, p.Vars[n-1].Hi = has("1"), has("1")
	leaves(t, p, "min : "+strconv.Itoa(n*(n+1)/2), 2*n-1)
	if c := trim.Of(p).Cert(optimal(strconv.Itoa(n*(n+1)/2), "", "")); !isProof(p, c) {
		t.Errorf("%s is no certificate", toldCert(c))
	}
}

// P15.3: what is left is in the form of Tidy, with its names, Max, Name and Whole, all in order, terms by the new places; P15.4: Steps.
func TestForm(t *testing.T) {
	bound := func(s string) api.Bound { return api.Bound{Has: true, At: odd(s)} }
	p := api.Problem{
		Max:   true,
		Name:  "profit",
		Const: odd("1/2"),
		Vars: []api.Var{
			{Name: "a", Obj: odd("2"), Lo: bound("3"), Hi: has("3")},
			{Name: "b", Obj: odd("5"), Lo: hasNot("8"), Hi: bound("7/2"), Whole: true},
			{Name: "", Obj: noughts()[4], Lo: has("1"), Hi: has("1"), Whole: true},
			{Name: "b", Obj: odd("-1/3"), Lo: api.Bound{Has: true, At: noughts()[2]}, Hi: hasNot("-1")},
			{Name: "e", Whole: true},
		},
		Rows: []api.Row{
			{Name: "gone", Terms: []api.Term{{Var: 0, Coef: num("1")}}, Lo: has("2")},
			{Name: "left", Terms: []api.Term{{Var: 4, Coef: odd("3")}, {Var: 3, Coef: odd("1")}, {Var: 9, Coef: odd("1")}, {Var: 0, Coef: odd("2")}, {Var: 1, Coef: odd("-1/2")}, {Var: 3, Coef: odd("1")}, {Var: 2, Coef: odd("4")}}, Lo: hasNot("6"), Hi: bound("4")},
			{Name: "", Lo: hasNot("1"), Hi: hasNot("-1")},
			{Name: "left", Terms: []api.Term{{Var: 4, Coef: odd("1")}, {Var: 1, Coef: odd("1")}}, Lo: bound("-1"), Hi: bound("1/7")},
		},
	}
	leaves(t, p, "max profit: 13/2 | b 5 from none to 7/2 whole | b -1/3 from 0 to none | e 0 from none to none whole | left: -1/2@0 2@1 3@2 from none to -6 | left: 1@0 1@2 from -1 to 1/7", 4)
	leaves(t, api.Problem{}, "min : 0", 0)
	leaves(t, api.Problem{Max: true, Name: "z", Const: odd("-3")}, "max z: -3", 0)
	// Of that row but the term of the first variable counts, if there are no others: b is up to 2.
	p.Rows, p.Vars = p.Rows[1:2], p.Vars[1:2]
	leaves(t, p, "max profit: 21/2", 2)
}

package check_test

import (
	"fmt"
	"testing"

	"vertex/api"
)

// chapters is the p of the chapter's examples.
func chapters() api.Problem {
	return problem("min 2 x + 3 y + 1 st r: x + y >= 4 bounds 0 <= x <= 3 y >= 0")
}

// The chapter's examples of Prove.
func TestExamplesOfProve(t *testing.T) {
	for y, want := range map[string]string{"2": "9", "3": "10", "0": "1", "4": "ErrBound", "-1": "ErrBound", "": "ErrShape"} {
		proves(t, chapters(), list(y), want)
	}
}

// P14.1: of a Max problem all is as of the Min problem with all turned.
func TestProveOfMaxProblems(t *testing.T) {
	p := problem("max 3 x + 5 y + 1 st a: x + y <= 4 b: x + 3 y <= 6")
	proves(t, p, list("2 1"), "15")
	proves(t, p, list("5 0"), "21")
	proves(t, p, list("0 3"), "19")
	proves(t, p, list("7/2 1/2"), "18")
	proves(t, p, list("2 9/10"), "ErrBound")
	proves(t, p, list("-1 10"), "ErrBound")
	proves(t, p, list("0 0"), "ErrBound")
	p = problem("max -2 x - 3 y - 1 st r: x + y >= 4 bounds 0 <= x <= 3 y >= 0")
	for y, want := range map[string]string{"-2": "-9", "-3": "-10", "0": "-1", "-4": "ErrBound", "1": "ErrBound", "": "ErrShape"} {
		proves(t, p, list(y), want)
	}
}

// bearing is which bound a multiplier of this sign asks for.
func bearing(p api.Problem, sign int) string {
	switch {
	case sign == 0:
		return "neither"
	case sign > 0 && !p.Max, sign < 0 && p.Max:
		return "lo"
	}
	return "hi"
}

// ways are all ways of having bounds: those that are absent have a number too, which doesn't count.
func ways() []both {
	return []both{{hasNot("7"), hasNot("11")}, {has("7"), hasNot("11")}, {hasNot("7"), has("11")}, {has("7"), has("11")}}
}

// P14.1: a multiplier above, below and at nought, of a row and of a variable, with no bound, with one and with both, in either sense.
func TestEachMultiplierAsksForItsBound(t *testing.T) {
	for _, sense := range []bool{false, true} {
		for sign := -1; sign <= 1; sign++ {
			for _, b := range ways() {
				multiplier := fmt.Sprint(3 * sign)
				row := api.Problem{Max: sense, Const: num("1"), Rows: []api.Row{{Lo: b.lo, Hi: b.hi}}}
				variable := api.Problem{Max: sense, Const: num("1"), Vars: []api.Var{{Obj: num(multiplier), Lo: b.lo, Hi: b.hi}}}
				want := "ErrBound"
				switch bearing(row, sign) {
				case "neither":
					want = "1"
				case "lo":
					if b.lo.Has {
						want = fmt.Sprint(1 + 3*sign*7)
					}
				case "hi":
					if b.hi.Has {
						want = fmt.Sprint(1 + 3*sign*11)
					}
				}
				proves(t, row, list(multiplier), want)
				proves(t, variable, nil, want)
			}
		}
	}
}

// P14.1: all rows and all variables are asked, the last ones too; each bears by its own bound.
func TestAllBearTogether(t *testing.T) {
	text := "min 2 x + 3 y - 5 z + 1/2 st a: x + y + z >= 4 b: x - y <= 3 c: y + 2 z = 5 d: x >= -inf bounds 0 <= x <= 3 y >= 1 z <= 7 z >= 2"
	// What is left: 2 - 1 + 1 = 2 of x, 3 - 1 - 1 + 3 = 4 of y, -5 - 1 + 6 = 0 of z.
	proves(t, problem(text), list("1 -1 -3 0"), "-19/2")
	// Without c's part 1 is left of y, and -6 of z, which asks for 7.
	proves(t, problem(text), list("1 -1 0 0"), "-79/2")
	proves(t, problem(text), list("1 -1 -3 1"), "ErrBound")
	proves(t, problem(text), list("1 -1 -3 -1"), "ErrBound")
	proves(t, problem(text), list("1 1 -3 0"), "ErrBound")
	proves(t, problem(text), list("-1 -1 -3 0"), "ErrBound")
	proves(t, problem(text), list("9 -1 -3 0"), "ErrBound")
	p := problem(text)
	p.Vars[2].Hi.Has = false
	proves(t, p, list("1 -1 -3 0"), "-19/2")
	proves(t, p, list("1 -1 0 0"), "ErrBound")
}

// P14.1: y has to have as many numbers as there are rows, whatever else is wrong.
func TestProveOfListsOfOtherLengths(t *testing.T) {
	none, one, two := api.Problem{}, chapters(), problem("max x st x >= 1 x >= 2 bounds x free")
	for n := range 5 {
		for rows, p := range []api.Problem{none, one, two} {
			want := "ErrShape"
			if n == rows {
				want = []string{"0", "1", "ErrBound"}[rows]
			}
			proves(t, p, make([]api.Rat, n), want)
		}
	}
	proves(t, none, nil, "0")
	proves(t, none, []api.Rat{}, "0")
	proves(t, one, nil, "ErrShape")
	proves(t, one, []api.Rat{}, "ErrShape")
	proves(t, one, list("4 0"), "ErrShape")
	proves(t, one, list("0 0"), "ErrShape")
}

// P14.1: problems of nothing but Const, rows without terms, variables in no row.
func TestProveOfLittle(t *testing.T) {
	for _, sense := range []bool{false, true} {
		proves(t, api.Problem{Max: sense, Const: odd("-7/2")}, nil, "-7/2")
		proves(t, api.Problem{Max: sense, Rows: make([]api.Row, 2), Vars: make([]api.Var, 3)}, list("0 0"), "0")
		proves(t, api.Problem{Max: sense, Rows: make([]api.Row, 2), Vars: make([]api.Var, 3)}, list("0 1"), "ErrBound")
		proves(t, api.Problem{Max: sense, Vars: []api.Var{{}, {Obj: num("1")}}}, nil, "ErrBound")
	}
	proves(t, problem("min 3 x st bounds 2 <= x <= 5"), nil, "6")
	proves(t, problem("max 3 x st bounds 2 <= x <= 5"), nil, "15")
}

// P14.1: crossed bounds are bounds as any, here.
func TestProveOfCrossedProblems(t *testing.T) {
	proves(t, problem("min x + y st 3 <= x + y <= 1 bounds 5 <= x <= 2"), list("1"), "3")
	proves(t, problem("max x + y st 3 <= x + y <= 1 bounds 5 <= x <= 2"), list("1"), "1")
	proves(t, problem("max x + y st 3 <= x + y <= 1 bounds 5 <= x <= 2"), list("2"), "-3")
}

// R6: several terms of one variable in a row add up, terms of variables that aren't there don't count.
func TestProveOfTermsByHand(t *testing.T) {
	p := chapters()
	p.Rows[0].Terms = []api.Term{{Var: 1, Coef: num("5")}, {Var: 0, Coef: num("1/2")}, {Var: 2, Coef: num("9")}, {Var: 1, Coef: num("-4")}, {Var: -1, Coef: num("9")}, {Var: 0, Coef: num("1/2")}, {Var: 1 << 62, Coef: num("9")}, {Var: -1 << 63, Coef: num("9")}, {Var: 1 << 32, Coef: num("9")}}
	for y, want := range map[string]string{"2": "9", "3": "10", "0": "1", "4": "ErrBound", "-1": "ErrBound", "": "ErrShape"} {
		proves(t, p, list(y), want)
	}
	p.Vars = nil
	proves(t, p, list("3"), "13")
	p = problem("min x st a: x - x + y >= 2 bounds y free x >= 0")
	p.Rows[0].Terms = []api.Term{{Var: 0, Coef: num("1")}, {Var: 0, Coef: num("-1")}}
	proves(t, p, list("3"), "6")
}

// R5: numbers count for what they are, however they are told; the answer is in the one form.
func TestProveOfFormsOfNumbers(t *testing.T) {
	p := api.Problem{
		Const: odd("1"),
		Vars:  []api.Var{{Obj: odd("2"), Lo: api.Bound{Has: true, At: noughts()[4]}, Hi: api.Bound{Has: true, At: odd("3")}}, {Obj: odd("3"), Lo: api.Bound{Has: true, At: noughts()[2]}}},
		Rows:  []api.Row{{Terms: []api.Term{{Coef: odd("1")}, {Var: 1, Coef: odd("1")}}, Lo: api.Bound{Has: true, At: odd("4")}}},
	}
	for y, want := range map[string]string{"2": "9", "3": "10", "4": "ErrBound", "-1": "ErrBound", "7/3": "28/3"} {
		proves(t, p, odds(y), want)
	}
	for _, nought := range noughts() {
		proves(t, p, []api.Rat{nought}, "1")
		for _, other := range noughts() {
			free := api.Problem{Const: nought, Vars: []api.Var{{Obj: other}}, Rows: []api.Row{{Terms: []api.Term{{Coef: nought}, {Coef: other}}}}}
			proves(t, free, []api.Rat{other}, "0")
			free.Max = true
			proves(t, free, []api.Rat{nought}, "0")
		}
	}
}

// Numbers may be great, and differ by a hair.
func TestProveOfGreatNumbers(t *testing.T) {
	p := problem("min 18446744073709551617 x st 36893488147419103232 x >= 1/3 bounds x free")
	proves(t, p, list("18446744073709551617/36893488147419103232"), "18446744073709551617/110680464442257309696")
	proves(t, p, list("18446744073709551616/36893488147419103232"), "ErrBound")
	p.Vars[0].Lo = has("0")
	proves(t, p, list("1/2"), "1/6")
	p.Max = true
	proves(t, p, list("1/2"), "ErrBound")
}

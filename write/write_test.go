package write_test

import (
	"strings"
	"testing"

	"vertex/api"
)

// The chapter's examples.
func TestExamples(t *testing.T) {
	writes(t, chapters(),
		"minimize",
		" z: + 2 x + 0 y - 1/3 v - 1/2",
		"subject to",
		" a: + 1 x - 2 y >= 4",
		" b: 0 <= + 0 <= 1",
		" c: + 1 x >= - inf",
		" d: + 1 v = 1",
		"bounds",
		" - 3 <= y <= 5/2",
		" v free",
		"general",
		" y",
		"end")
	writes(t, api.Problem{Max: true}, "maximize", "subject to", "end")
	p := chapters()
	p.Vars[0].Name = "a"
	writes(t, p,
		"minimize",
		" z: + 2 a + 0 y - 1/3 v - 1/2",
		"subject to",
		" a: + 1 a - 2 y >= 4",
		" b: 0 <= + 0 <= 1",
		" c: + 1 a >= - inf",
		" d: + 1 v = 1",
		"bounds",
		" - 3 <= y <= 5/2",
		" v free",
		"general",
		" y",
		"end")
}

// P8.2, 1 and 2: both senses; the objective's line with and without a name, variables and a constant, and none where it would be empty.
func TestObjective(t *testing.T) {
	for _, x := range []struct {
		name, constant string
		vars           []api.Var
		want           string
	}{
		{"", "0", nil, ""},
		{"z", "0", nil, " z:"},
		{"", "7", nil, " + 7"},
		{"", "-7/3", nil, " - 7/3"},
		{"z", "1/2", nil, " z: + 1/2"},
		{"z", "-1", nil, " z: - 1"},
		{"", "0", []api.Var{usual("x", "0")}, " + 0 x"},
		{"x", "0", []api.Var{usual("x", "-1")}, " x: - 1 x"},
		{"", "-4", []api.Var{usual("x", "5"), usual("y", "0"), usual("e5", "-18446744073709551617/2")}, " + 5 x + 0 y - 18446744073709551617/2 e5 - 4"},
		{"z", "4", []api.Var{usual("b", "1"), usual("a", "1")}, " z: + 1 b + 1 a + 4"},
	} {
		for word, max := range map[string]bool{"minimize": false, "maximize": true} {
			want := []string{word, x.want, "subject to", "end"}
			if x.want == "" {
				want = []string{word, "subject to", "end"}
			}
			writes(t, api.Problem{Max: max, Name: x.name, Const: num(x.constant), Vars: x.vars}, want...)
		}
	}
}

// P8.2, 2: Const, Obj and terms of nought, told in every way, count as nought.
func TestNoughts(t *testing.T) {
	for _, nought := range noughts() {
		there, absent := api.Bound{Has: true, At: nought}, api.Bound{At: nought}
		p := api.Problem{
			Const: nought,
			Vars:  []api.Var{{Name: "x", Obj: nought, Lo: there, Hi: absent}, {Name: "y", Obj: nought, Lo: there, Hi: there}, {Name: "z", Obj: nought, Lo: absent, Hi: there}, {Name: "v", Obj: nought, Lo: absent, Hi: absent}},
			Rows:  []api.Row{{Name: "a", Terms: []api.Term{{Coef: nought}}, Lo: there, Hi: there}, {Name: "b", Lo: there, Hi: absent}, {Name: "c", Lo: absent, Hi: there}, {Name: "d", Lo: absent, Hi: absent}},
		}
		writes(t, p, "minimize", " + 0 x + 0 y + 0 z + 0 v", "subject to", " a: + 0 = 0", " b: + 0 >= 0", " c: + 0 <= 0", " d: + 0 >= - inf", "bounds", " y = 0", " - inf <= z <= 0", " v free", "end")
	}
}

// pairs are bounds of every kind, each with each; in N, which stands for a name or a sum, what a row and what a variable with them is told as ("": a variable is not told).
var pairs = []struct {
	lo, hi        string
	row, variable string
}{
	{"", "", "N >= - inf", "N free"},
	{"0", "", "N >= 0", ""},
	{"2", "", "N >= 2", "N >= 2"},
	{"-2/3", "", "N >= - 2/3", "N >= - 2/3"},
	{"", "0", "N <= 0", "- inf <= N <= 0"},
	{"", "2/7", "N <= 2/7", "- inf <= N <= 2/7"},
	{"", "-2", "N <= - 2", "- inf <= N <= - 2"},
	{"0", "0", "N = 0", "N = 0"},
	{"2", "2", "N = 2", "N = 2"},
	{"-2/9", "-2/9", "N = - 2/9", "N = - 2/9"},
	{"0", "1", "0 <= N <= 1", "0 <= N <= 1"},
	{"-1", "0", "- 1 <= N <= 0", "- 1 <= N <= 0"},
	{"-5/2", "5/2", "- 5/2 <= N <= 5/2", "- 5/2 <= N <= 5/2"},
	{"1/3", "1/2", "1/3 <= N <= 1/2", "1/3 <= N <= 1/2"},
	{"-2", "-1", "- 2 <= N <= - 1", "- 2 <= N <= - 1"},
	{"1", "0", "1 <= N <= 0", "1 <= N <= 0"},
	{"0", "-1/2", "0 <= N <= - 1/2", "0 <= N <= - 1/2"},
	{"-1", "-2", "- 1 <= N <= - 2", "- 1 <= N <= - 2"},
	{"100000000000000000000", "100000000000000000001", "100000000000000000000 <= N <= 100000000000000000001", "100000000000000000000 <= N <= 100000000000000000001"},
}

// bound is a bound; "": one that isn't there, though a number stands in it.
func bound(s string) api.Bound {
	if s == "" {
		return hasNot("0")
	}
	return has(s)
}

// others are other tellings of a bound.
func others(s string) []api.Bound {
	if s == "" {
		return []api.Bound{{}, hasNot("0"), hasNot("7"), {At: odd("-1/2")}}
	}
	return []api.Bound{has(s), {Has: true, At: odd(s)}}
}

// P8.2, 4: every relation, of sums with terms, with one and without, whatever stands in a bound that is absent.
func TestRows(t *testing.T) {
	vars := []api.Var{usual("x", "1"), usual("y", "2"), usual("z", "3")}
	for _, x := range pairs {
		for sum, terms := range map[string][]api.Term{
			"+ 0":                 nil,
			"+ 1 x":               {term(0, "1")},
			"- 1 z":               {term(2, "-1")},
			"+ 2/3 x - 7 y + 1 z": {term(2, "1"), term(0, "2/3"), term(1, "-7")},
		} {
			for _, lo := range others(x.lo) {
				for _, hi := range others(x.hi) {
					want := " c: " + strings.Replace(x.row, "N", sum, 1)
					writes(t, api.Problem{Vars: vars, Rows: []api.Row{{Name: "c", Terms: terms, Lo: lo, Hi: hi}}}, "minimize", " + 1 x + 2 y + 3 z", "subject to", want, "end")
				}
			}
		}
	}
}

// P8.2, 4: rows in their order, one behind the other: what ends one doesn't run into the next.
func TestManyRows(t *testing.T) {
	for _, terms := range [][]api.Term{nil, {term(0, "1")}} {
		p := api.Problem{Vars: []api.Var{usual("x", "1")}}
		want := []string{"minimize", " + 1 x", "subject to"}
		sum := "+ 0"
		if terms != nil {
			sum = "+ 1 x"
		}
		for i, a := range pairs {
			for j, b := range pairs {
				one, two := string(rune('a'+i)), string(rune('a'+j))
				p.Rows = append(p.Rows, api.Row{Name: one + two, Terms: terms, Lo: bound(a.lo), Hi: bound(a.hi)}, api.Row{Name: one + "_" + two, Terms: terms, Lo: bound(b.lo), Hi: bound(b.hi)})
				want = append(want, " "+one+two+": "+strings.Replace(a.row, "N", sum, 1), " "+one+"_"+two+": "+strings.Replace(b.row, "N", sum, 1))
			}
		}
		writes(t, p, append(want, "end")...)
	}
}

// P8.2, 4: terms of a problem that is in no one form: added up, by rising place, those of nought and of no variable left out.
func TestTerms(t *testing.T) {
	for _, x := range []struct {
		terms []api.Term
		want  string
	}{
		{[]api.Term{term(2, "1"), term(0, "2"), term(1, "3")}, "+ 2 x + 3 y + 1 z"},
		{[]api.Term{term(1, "1"), term(1, "1/2"), term(1, "1/2")}, "+ 2 y"},
		{[]api.Term{term(1, "1"), term(0, "4"), term(1, "-1")}, "+ 4 x"},
		{[]api.Term{term(1, "0"), term(0, "0"), term(2, "-1/3")}, "- 1/3 z"},
		{[]api.Term{term(3, "1"), term(-1, "1"), term(1<<40, "9")}, "+ 0"},
		{[]api.Term{{Var: 1, Coef: odd("4/6")}, {Var: 0, Coef: odd("-3")}, {Var: 2}}, "- 3 x + 2/3 y"},
		{[]api.Term{term(0, "1"), term(0, "-1")}, "+ 0"},
	} {
		p := api.Problem{Vars: []api.Var{usual("x", "0"), usual("y", "0"), usual("z", "0")}, Rows: []api.Row{{Name: "c", Terms: x.terms, Lo: has("1")}}}
		writes(t, p, "minimize", " + 0 x + 0 y + 0 z", "subject to", " c: "+x.want+" >= 1", "end")
	}
	writes(t, api.Problem{Rows: []api.Row{{Name: "c", Terms: []api.Term{term(0, "1"), term(-1, "1")}, Hi: has("2")}}}, "minimize", "subject to", " c: + 0 <= 2", "end")
}

// P8.2, 5 and 6: every kind of bounds, of variables that are whole and of such that aren't, in a row and in none.
func TestBounds(t *testing.T) {
	for _, x := range pairs {
		for _, lo := range others(x.lo) {
			for _, hi := range others(x.hi) {
				for _, whole := range []bool{false, true} {
					want := []string{"minimize", " + 1 x + 0 y", "subject to", " c: + 1 x >= 1"}
					if x.variable != "" {
						want = append(want, "bounds", " "+strings.Replace(x.variable, "N", "y", 1))
					}
					if whole {
						want = append(want, "general", " y")
					}
					rows := []api.Row{{Name: "c", Terms: []api.Term{term(0, "1")}, Lo: has("1")}}
					vars := []api.Var{usual("x", "1"), {Name: "y", Lo: lo, Hi: hi, Whole: whole}}
					writes(t, api.Problem{Vars: vars, Rows: rows}, append(want, "end")...)
				}
			}
		}
	}
}

// P8.2, 5 and 6: each pair of kinds of bounds, side by side: those that are told in their order, without the others; whole ones likewise.
func TestManyBounds(t *testing.T) {
	for i, a := range pairs {
		for j, b := range pairs {
			p := api.Problem{Vars: []api.Var{
				{Name: "v", Lo: bound(b.lo), Hi: bound(b.hi), Whole: i%2 == 0},
				{Name: "u", Lo: bound(a.lo), Hi: bound(a.hi), Whole: j%2 == 0},
				usual("t", "0"),
				{Name: "s", Lo: bound(b.lo), Hi: bound(b.hi), Whole: i%3 == 0},
			}}
			var limits, wholes []string
			for k, x := range []string{b.variable, a.variable, "", b.variable} {
				if x != "" {
					limits = append(limits, " "+strings.Replace(x, "N", p.Vars[k].Name, 1))
				}
				if p.Vars[k].Whole {
					wholes = append(wholes, " "+p.Vars[k].Name)
				}
			}
			want := []string{"minimize", " + 0 v + 0 u + 0 t + 0 s", "subject to"}
			if limits != nil {
				want = append(append(want, "bounds"), limits...)
			}
			if wholes != nil {
				want = append(append(want, "general"), wholes...)
			}
			writes(t, p, append(want, "end")...)
		}
	}
}

// P8.2, 6: whole variables that a reader would call binary, and such without bounds: told like all others.
func TestWholes(t *testing.T) {
	writes(t, api.Problem{Max: true, Vars: []api.Var{{Name: "x", Lo: has("0"), Hi: has("1"), Whole: true}, {Name: "y", Whole: true}, {Name: "z", Obj: num("1"), Lo: has("0"), Hi: has("1")}, {Name: "u", Lo: has("0"), Whole: true}}},
		"maximize", " + 0 x + 0 y + 1 z + 0 u", "subject to", "bounds", " 0 <= x <= 1", " y free", " 0 <= z <= 1", "general", " x", " y", " u", "end")
}

// P8.2: problems without variables that have rows, and without rows that have variables.
func TestPartsThatLack(t *testing.T) {
	writes(t, api.Problem{}, "minimize", "subject to", "end")
	writes(t, api.Problem{Vars: []api.Var{}, Rows: []api.Row{}}, "minimize", "subject to", "end")
	writes(t, api.Problem{Name: "z", Rows: []api.Row{{Name: "b", Lo: has("-1")}, {Name: "a", Hi: has("1/2")}}}, "minimize", " z:", "subject to", " b: + 0 >= - 1", " a: + 0 <= 1/2", "end")
	writes(t, api.Problem{Vars: []api.Var{usual("x", "1"), {Name: "y", Whole: true}}}, "minimize", " + 1 x + 0 y", "subject to", "bounds", " y free", "general", " y", "end")
}

// P8.2: numbers of many limbs, whole and not.
func TestGreatNumbers(t *testing.T) {
	great, small := "1"+strings.Repeat("0", 400), "1/"+"1"+strings.Repeat("0", 399)
	writes(t, api.Problem{Const: num("-" + great), Vars: []api.Var{{Name: "x", Obj: num(small), Lo: has("-" + small), Hi: has(great)}}, Rows: []api.Row{{Name: "c", Terms: []api.Term{term(0, "-"+great), term(0, small)}, Lo: has(great), Hi: has(small)}}},
		"minimize", " + "+small+" x - "+great, "subject to", " c: "+great+" <= - "+strings.Repeat("9", 799)+"/1"+strings.Repeat("0", 399)+" x <= "+small, "bounds", " - "+small+" <= x <= "+great, "end")
}

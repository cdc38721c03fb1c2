package mps_test

import (
	"strings"
	"testing"

	"vertex/api"
	"vertex/mps"
)

// The chapter's example.
func TestExampleOfWriting(t *testing.T) {
	writes(t, chapters(), "NAME|OBJSENSE| MAX|ROWS| N -| L r|COLUMNS| MARKER 'MARKER' 'INTORG'| x - 2| x r 1|RHS| RHS - -1| RHS r 5/2|BOUNDS| UP BND x 3|ENDATA|")
}

// P9.4, 1 to 4 and 8: heads that are told where nothing stands under them, and heads that aren't.
func TestPartsThatLack(t *testing.T) {
	writes(t, api.Problem{}, "NAME|ROWS| N -|COLUMNS|ENDATA|")
	writes(t, api.Problem{Vars: []api.Var{}, Rows: []api.Row{}}, "NAME|ROWS| N -|COLUMNS|ENDATA|")
	writes(t, api.Problem{Max: true, Name: "z"}, "NAME|OBJSENSE| MAX|ROWS| N z|COLUMNS|ENDATA|")
	writes(t, api.Problem{Name: "z", Const: num("-1/2")}, "NAME|ROWS| N z|COLUMNS|RHS| RHS z 1/2|ENDATA|")
	writes(t, api.Problem{Rows: []api.Row{{Name: "b", Lo: has("-1")}, {Name: "a"}}}, "NAME|ROWS| N -| G b| N a|COLUMNS|RHS| RHS b -1|ENDATA|")
	writes(t, api.Problem{Rows: []api.Row{{Name: "b", Lo: has("0"), Hi: has("2")}}}, "NAME|ROWS| N -| G b|COLUMNS|RANGES| RHS b 2|ENDATA|")
	writes(t, api.Problem{Vars: []api.Var{usual("x", "1"), {Name: "y"}}}, "NAME|ROWS| N -|COLUMNS| x - 1| y - 0|BOUNDS| FR BND y|ENDATA|")
}

// P9.4: Const, Obj, terms and bounds of nought, told in every way, count as nought.
func TestNoughts(t *testing.T) {
	for _, nought := range noughts() {
		there, absent := api.Bound{Has: true, At: nought}, api.Bound{At: nought}
		p := api.Problem{
			Const: nought,
			Vars:  []api.Var{{Name: "x", Obj: nought, Lo: there, Hi: absent}, {Name: "y", Obj: nought, Lo: there, Hi: there}, {Name: "z", Obj: nought, Lo: absent, Hi: there}, {Name: "v", Obj: nought, Lo: absent, Hi: absent}},
			Rows:  []api.Row{{Name: "a", Terms: []api.Term{{Coef: nought}}, Lo: there, Hi: there}, {Name: "b", Lo: there, Hi: absent}, {Name: "c", Lo: absent, Hi: there}, {Name: "d", Lo: absent, Hi: absent}},
		}
		writes(t, p, "NAME|ROWS| N -| E a| G b| L c| N d|COLUMNS| x - 0| y - 0| z - 0| v - 0|BOUNDS| FX BND y 0| MI BND z| UP BND z 0| FR BND v|ENDATA|")
	}
}

// pairs are bounds of every kind, each with what a row and what a variable with them is told as: a row's kind, its RHS and its RANGE; a variable's entries, in which N stands for its name.
var pairs = []struct {
	lo, hi, kind, rhs, reach, limits string
}{
	{"", "", "N", "", "", " FR BND N|"},
	{"0", "", "G", "", "", ""},
	{"2", "", "G", "2", "", " LO BND N 2|"},
	{"-2/3", "", "G", "-2/3", "", " LO BND N -2/3|"},
	{"", "0", "L", "", "", " MI BND N| UP BND N 0|"},
	{"", "2/7", "L", "2/7", "", " MI BND N| UP BND N 2/7|"},
	{"", "-2", "L", "-2", "", " MI BND N| UP BND N -2|"},
	{"0", "0", "E", "", "", " FX BND N 0|"},
	{"2", "2", "E", "2", "", " FX BND N 2|"},
	{"-2/9", "-2/9", "E", "-2/9", "", " FX BND N -2/9|"},
	{"0", "1", "G", "", "1", " UP BND N 1|"},
	{"-1", "0", "G", "-1", "1", " LO BND N -1| UP BND N 0|"},
	{"-5/2", "5/2", "G", "-5/2", "5", " LO BND N -5/2| UP BND N 5/2|"},
	{"1/3", "1/2", "G", "1/3", "1/6", " LO BND N 1/3| UP BND N 1/2|"},
	{"-2", "-1", "G", "-2", "1", " LO BND N -2| UP BND N -1|"},
	{"1", "0", "G", "1", "-1", " LO BND N 1| UP BND N 0|"},
	{"0", "-1/2", "G", "", "-1/2", " UP BND N -1/2|"},
	{"-1", "-2", "G", "-1", "-1", " LO BND N -1| UP BND N -2|"},
	{"100000000000000000000", "100000000000000000001", "G", "100000000000000000000", "1", " LO BND N 100000000000000000000| UP BND N 100000000000000000001|"},
}

// namedIn puts a variable's name into its entries.
func namedIn(limits, name string) string { return strings.ReplaceAll(limits, "BND N", "BND "+name) }

// section is a head with its entries; nothing, if there are none.
func section(head, entries string) string {
	if entries == "" {
		return ""
	}
	return head + "|" + entries
}

// said is an entry of RHS or of RANGES; nothing, if there is no number.
func said(name, number string) string {
	if number == "" {
		return ""
	}
	return " RHS " + name + " " + number + "|"
}

// bound is a bound; "": one that isn't there, though a number stands in it.
func bound(s string) api.Bound {
	if s == "" {
		return hasNot("5")
	}
	return has(s)
}

// others are other tellings of a bound.
func others(s string) []api.Bound {
	if s == "" {
		return []api.Bound{{}, hasNot("0"), hasNot("7"), {At: odd("-1/2")}}
	}
	return []api.Bound{has(s), {Has: true, At: odd(s)}}
}

// P9.4, 3, 5 and 6: a row's kind, its RHS and its RANGE, with terms and without, whatever stands in a bound that is absent.
func TestBoundsOfRows(t *testing.T) {
	for _, x := range pairs {
		for _, lo := range others(x.lo) {
			for _, hi := range others(x.hi) {
				rhs, reach := section("RHS", said("r", x.rhs)), section("RANGES", said("r", x.reach))
				row := api.Row{Name: "r", Lo: lo, Hi: hi}
				writes(t, api.Problem{Name: "c", Rows: []api.Row{row}}, "NAME|ROWS| N c| "+x.kind+" r|COLUMNS|"+rhs+reach+"ENDATA|")
				row.Terms = []api.Term{term(0, "-7/2")}
				writes(t, api.Problem{Name: "c", Vars: []api.Var{usual("x", "0")}, Rows: []api.Row{row}}, "NAME|ROWS| N c| "+x.kind+" r|COLUMNS| x r -7/2|"+rhs+reach+"ENDATA|")
			}
		}
	}
}

// P9.4, 3, 5 and 6: each pair of kinds of rows, side by side, with the objective's RHS ahead of theirs and without.
func TestManyRows(t *testing.T) {
	for i, a := range pairs {
		for j, b := range pairs {
			p := api.Problem{Rows: []api.Row{{Name: "q", Lo: bound(a.lo), Hi: bound(a.hi)}, {Name: "p", Lo: bound(b.lo), Hi: bound(b.hi)}}}
			constant := ""
			if (i+j)%2 == 0 {
				p.Const, constant = num("4/3"), " RHS - -4/3|"
			}
			rhs, reach := section("RHS", constant+said("q", a.rhs)+said("p", b.rhs)), section("RANGES", said("q", a.reach)+said("p", b.reach))
			writes(t, p, "NAME|ROWS| N -| "+a.kind+" q| "+b.kind+" p|COLUMNS|"+rhs+reach+"ENDATA|")
		}
	}
}

// P9.4, 7: a variable's bounds, whether it is whole or not, in a row and in none.
func TestBoundsOfVariables(t *testing.T) {
	for _, x := range pairs {
		for _, lo := range others(x.lo) {
			for _, hi := range others(x.hi) {
				limits := section("BOUNDS", namedIn(x.limits, "y"))
				y := api.Var{Name: "y", Lo: lo, Hi: hi}
				writes(t, api.Problem{Vars: []api.Var{y}}, "NAME|ROWS| N -|COLUMNS| y - 0|"+limits+"ENDATA|")
				y.Obj, y.Whole = num("3"), true
				writes(t, api.Problem{Vars: []api.Var{y}, Rows: []api.Row{{Name: "y", Terms: []api.Term{term(0, "1")}}}}, "NAME|ROWS| N -| N y|COLUMNS| MARKER 'MARKER' 'INTORG'| y - 3| y y 1|"+limits+"ENDATA|")
			}
		}
	}
}

// P9.4, 7: each pair of kinds of bounds, side by side.
func TestManyBounds(t *testing.T) {
	for _, a := range pairs {
		for _, b := range pairs {
			p := api.Problem{Vars: []api.Var{{Name: "v", Lo: bound(a.lo), Hi: bound(a.hi)}, usual("t", "0"), {Name: "s", Lo: bound(b.lo), Hi: bound(b.hi)}}}
			writes(t, p, "NAME|ROWS| N -|COLUMNS| v - 0| t - 0| s - 0|"+section("BOUNDS", namedIn(a.limits, "v")+namedIn(b.limits, "s"))+"ENDATA|")
		}
	}
}

// P9.4, 4: markers ahead of the first of a run of whole variables, and behind its last one if others follow.
func TestRunsOfWholes(t *testing.T) {
	const on, off = " MARKER 'MARKER' 'INTORG'|", " MARKER 'MARKER' 'INTEND'|"
	for choice := range 1 << 6 {
		var p api.Problem
		want := "NAME|ROWS| N c|COLUMNS|"
		p.Name = "c"
		for i, name := range []string{"u", "v", "w", "x", "y", "z"} {
			whole, ahead := choice>>i&1 == 1, i > 0 && choice>>(i-1)&1 == 1
			if whole && !ahead {
				want += on
			}
			if !whole && ahead {
				want += off
			}
			v := usual(name, "1")
			v.Whole = whole
			p.Vars = append(p.Vars, v)
			want += " " + name + " c 1|"
		}
		writes(t, p, want+"ENDATA|")
	}
}

// P9.4, 4: a variable's coefficients: the objective's first, then the rows' in their order; only one of nought where there is no other.
func TestColumns(t *testing.T) {
	p := api.Problem{
		Name: "c",
		Vars: []api.Var{usual("x", "1"), usual("y", "0"), usual("z", "-1/2"), usual("v", "0"), usual("w", "18446744073709551617/2")},
		Rows: []api.Row{
			{Name: "b", Terms: []api.Term{term(2, "3"), term(0, "4")}},
			{Name: "a", Terms: []api.Term{term(1, "-5"), term(0, "6/4"), term(0, "1/2")}},
			{Name: "d"},
			{Name: "e", Terms: []api.Term{term(2, "1"), term(3, "7"), term(2, "-1"), term(3, "-7"), term(0, "0")}},
		},
	}
	writes(t, p, "NAME|ROWS| N c| N b| N a| N d| N e|COLUMNS| x c 1| x b 4| x a 2| y a -5| z c -1/2| z b 3| v c 0| w c 18446744073709551617/2|ENDATA|")
}

// P9.4: terms of a problem that is in no one form: added up, those of nought and of no variable left out.
func TestTerms(t *testing.T) {
	for _, x := range []struct {
		terms []api.Term
		want  string
	}{
		{[]api.Term{term(2, "1"), term(0, "2"), term(1, "3")}, " x r 2| y r 3| z r 1|"},
		{[]api.Term{term(1, "1"), term(1, "1/2"), term(1, "1/2")}, " x - 0| y r 2| z - 0|"},
		{[]api.Term{term(1, "1"), term(0, "4"), term(1, "-1")}, " x r 4| y - 0| z - 0|"},
		{[]api.Term{term(3, "1"), term(-1, "1"), term(1<<40, "9")}, " x - 0| y - 0| z - 0|"},
		{[]api.Term{{Var: 1, Coef: odd("4/6")}, {Var: 0, Coef: odd("-3")}, {Var: 2}}, " x r -3| y r 2/3| z - 0|"},
	} {
		p := api.Problem{Vars: []api.Var{usual("x", "0"), usual("y", "0"), usual("z", "0")}, Rows: []api.Row{{Name: "r", Terms: x.terms, Lo: has("1")}}}
		writes(t, p, "NAME|ROWS| N -| G r|COLUMNS|"+x.want+"RHS| RHS r 1|ENDATA|")
	}
	writes(t, api.Problem{Rows: []api.Row{{Name: "r", Terms: []api.Term{term(0, "1"), term(-1, "1")}}}}, "NAME|ROWS| N -| N r|COLUMNS|ENDATA|")
}

// P9.4: numbers of many limbs, whole and not.
func TestGreatNumbers(t *testing.T) {
	great, small := "1"+strings.Repeat("0", 400), "1/"+"1"+strings.Repeat("0", 399)
	p := api.Problem{Const: num("-" + great), Vars: []api.Var{{Name: "x", Obj: num(small), Lo: has("-" + small), Hi: has(great)}}, Rows: []api.Row{{Name: "r", Terms: []api.Term{term(0, "-"+great)}, Lo: has(great), Hi: has(small)}}}
	writes(t, p, "NAME|ROWS| N -| G r|COLUMNS| x - "+small+"| x r -"+great+"|RHS| RHS - "+great+"| RHS r "+great+"|RANGES| RHS r -"+strings.Repeat("9", 799)+"/1"+strings.Repeat("0", 399)+"|BOUNDS| LO BND x -"+small+"| UP BND x "+great+"|ENDATA|")
}

// noWords are names that are no words.
var noWords = []string{"", " ", "a b", " a", "a ", "a\tb", "\t", "a\rb", "a\r", "a\nb", "\n", "a\n", "\na", "é é", "\x00 \xff", "'MARKER' 'INTORG'"}

// wordsOfAllKinds are names that are words, though they look like something else.
var wordsOfAllKinds = []string{"x", "X", "*", "*x", "--", "-x", "'MARKER'", "'INTORG'", "'INTEND'", "MARKER", "RHS", "BND", "NAME", "ROWS", "COLUMNS", "ENDATA", "RANGES", "BOUNDS", "N", "G", "MAX", "0", "1/2", "-1", "é", "\x00", "\xff\xfe", "a\vb", "\f", "\u00a0", "\u2028", "\u0085", "end", "a:b", strings.Repeat("long", 300)}

// fourOf is a problem with a name, two variables and two rows.
func fourOf(objective, x, y, r, s string) api.Problem {
	return api.Problem{Name: objective, Vars: []api.Var{usual(x, "1"), {Name: y, Whole: true}}, Rows: []api.Row{{Name: r, Terms: []api.Term{term(1, "2")}}, {Name: s, Hi: has("3")}}}
}

// P9.4: names that are no words, of each thing that has a name; the objective's may be empty.
func TestNamesThatAreNoWords(t *testing.T) {
	for _, name := range noWords {
		if name != "" {
			isRefused(t, fourOf(name, "x", "y", "r", "s"))
			isRefused(t, api.Problem{Name: name})
		}
		isRefused(t, fourOf("c", name, "y", "r", "s"))
		isRefused(t, fourOf("", "x", name, "r", "s"))
		isRefused(t, fourOf("c", "x", "y", name, "s"))
		isRefused(t, fourOf("", "x", "y", "r", name))
		isRefused(t, api.Problem{Vars: []api.Var{{Name: name}}})
		isRefused(t, api.Problem{Rows: []api.Row{{Name: name}}})
	}
}

// P9.4: names that are words, whatever they look like.
func TestNamesThatAreWords(t *testing.T) {
	const head, tail = "NAME|ROWS| N $| N $r| L $s|COLUMNS|", "RHS| RHS $s 3|BOUNDS| FR BND $y|ENDATA|"
	text := func(objective, x, y, r, s string) string {
		want := head + " $x $ 1| MARKER 'MARKER' 'INTORG'| $y $r 2|" + tail
		want = strings.NewReplacer("$x", x, "$y", y, "$r", r, "$s", s).Replace(want)
		return strings.ReplaceAll(want, "$", objective)
	}
	for _, name := range wordsOfAllKinds {
		for _, other := range []string{"o", name} {
			writes(t, fourOf(name, other, "p", "q", "s"), text(name, other, "p", "q", "s"))
			writes(t, fourOf(other, name, "p", "q", "s"), text(other, name, "p", "q", "s"))
			writes(t, fourOf("o", "p", name, "q", other+"."), text("o", "p", name, "q", other+"."))
			writes(t, fourOf("o", "p", other, name, "q"), text("o", "p", other, name, "q"))
			writes(t, fourOf("o", other, "p", "q", name), text("o", other, "p", "q", name))
		}
	}
}

// P9.4: the name '-' is no objective's and no row's, but may be a variable's.
func TestTheNameOfNone(t *testing.T) {
	isRefused(t, api.Problem{Name: "-"})
	isRefused(t, fourOf("-", "x", "y", "r", "s"))
	for _, objective := range []string{"", "c", "x"} {
		isRefused(t, fourOf(objective, "x", "y", "-", "s"))
		isRefused(t, fourOf(objective, "x", "y", "r", "-"))
		isRefused(t, api.Problem{Name: objective, Rows: []api.Row{{Name: "-"}}})
	}
	writes(t, api.Problem{Vars: []api.Var{usual("-", "1"), usual("--", "0")}}, "NAME|ROWS| N -|COLUMNS| - - 1| -- - 0|ENDATA|")
}

// P9.4: names twice among the variables, or among the rows and the objective; elsewhere they may be.
func TestNamesTwice(t *testing.T) {
	isRefused(t, fourOf("c", "x", "x", "r", "s"))
	isRefused(t, fourOf("", "-", "-", "r", "s"))
	isRefused(t, fourOf("c", "x", "y", "r", "r"))
	isRefused(t, fourOf("", "x", "y", "r", "r"))
	isRefused(t, fourOf("c", "x", "y", "c", "s"))
	isRefused(t, fourOf("c", "x", "y", "r", "c"))
	p := fourOf("c", "x", "y", "r", "s")
	p.Vars = append(p.Vars, usual("z", "0"), usual("x", "0"))
	isRefused(t, p)
	p = fourOf("c", "x", "y", "r", "s")
	p.Rows = append(p.Rows, api.Row{Name: "t"}, api.Row{Name: "r"})
	isRefused(t, p)
	writes(t, fourOf("x", "x", "r", "r", "X"), "NAME|ROWS| N x| N r| L X|COLUMNS| x x 1| MARKER 'MARKER' 'INTORG'| r r 2|RHS| RHS X 3|BOUNDS| FR BND r|ENDATA|")
}

// P9.4: a text ends with a line feed, and has no others than its lines'.
func TestLinesOfTexts(t *testing.T) {
	text, err := mps.Write(chapters())
	if err != nil {
		t.Fatal(err)
	}
	for line := range strings.Lines(text) {
		trimmed := strings.TrimSpace(line)
		if line != trimmed+"\n" && line != " "+trimmed+"\n" || strings.Contains(trimmed, "  ") || trimmed == "" {
			t.Errorf("a line is %q", line)
		}
	}
}

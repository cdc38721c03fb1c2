package model_test

import (
	"testing"

	"vertex/api"
	"vertex/model"
	"vertex/parse"
)

// The chapter's examples of texts.
func TestExamples(t *testing.T) {
	reads(t, "min 2 x + 3 y - x + 4 st c: x + y >= 2 end", "min : 4 | x 1 from 0 to none | y 3 from 0 to none | c: 1@0 1@1 from 2 to none")
	reads(t, "max z: y st x - x + y + 1 <= 3 x >= 1 end", "max z: 0 | y 1 from 0 to none | x 0 from 0 to none | R1: 1@0 from none to 2 | R2: 1@1 from 1 to none")
	reads(t, "min x st R2: x >= 1 y >= 2 x + y <= 9 end", "min : 0 | x 1 from 0 to none | y 0 from 0 to none | R2: 1@0 from 1 to none | R3: 1@1 from 2 to none | R4: 1@0 1@1 from none to 9")
	failsAt(t, "min a: x st ^a: x >= 1 end", api.ErrTwice)
	reads(t, "min a st a: x >= 1 end", "min : 0 | a 1 from 0 to none | x 0 from 0 to none | a: 1@1 from 1 to none")
	reads(t, "min x st x >= 1 bounds x <= 5 -1 <= x y free binary x end", "min : 0 | x 1 from 0 to 1 whole | y 0 from none to none | R1: 1@0 from 1 to none")
}

// P7.1: Max, Name and Const, of several constants, of some that come to nought and of none.
func TestObjective(t *testing.T) {
	reads(t, "min st end", "min : 0")
	reads(t, "max R1: st end", "max R1: 0")
	reads(t, "min 3 - 1/2 + 1/2 - 3 st end", "min : 0")
	reads(t, "max z: 1/3 + x - 7 + 2/3 y - 1/2 x + 1/6 st end", "max z: -13/2 | x 1/2 from 0 to none | y 2/3 from 0 to none")
	reads(t, "min x - 1/3 x - 2/3 x + 0 y st end", "min : 0 | x 0 from 0 to none | y 0 from 0 to none")
	builds(t, api.Text{}, "min : 0")
	builds(t, api.Text{Max: true, Name: "no name", Items: []api.Item{item("4", ""), item("1", "no name"), item("-7/2", "")}}, "max no name: 1/2 | no name 1 from 0 to none")
}

// P7.1: names of claims that are the objective's, or stand ahead already: the first such claim is at fault.
func TestNamesTwice(t *testing.T) {
	for _, s := range []string{
		"min z: st x >= 1\n y: x >= 2\n ^z: x >= 3 end", "min st a: x >= 1\n\n b: x >= 2 ^a: x >= 3 b: x >= 4 end", "min st a: x >= 1 ^a: x >= 1 a: x >= 1 end",
		"min b: st a: x >= 1 c: x <= 2 ^b: x >= 2 a: x = 3 end", "min b: st a: x >= 1 c: x <= 2 ^a: x >= 2 b: x = 3 end", "min R1: st x >= 1 ^R1: x >= 1 end",
		"min st R1: x >= 1 x <= 3\n\\ R1\n\t^R1: x >= 1 end",
	} {
		failsAt(t, s, api.ErrTwice)
	}
	reads(t, "min x: x st X: x >= 1 y: y <= 2 bounds X free end", "min x: 0 | x 1 from 0 to none | y 0 from 0 to none | X 0 from none to none | X: 1@0 from 1 to none | y: 1@1 from none to 2")
}

// P7.1: the fault tells the claim's Line and Col, whatever they are; claims without a name are never at fault.
func TestPlaceOfAClaim(t *testing.T) {
	named := func(name string, line, col int) api.Claim { return api.Claim{Name: name, Line: line, Col: col} }
	for _, x := range []struct {
		text      api.Text
		line, col int
	}{
		{api.Text{Name: "z", Claims: []api.Claim{named("z", 7, -3)}}, 7, -3},
		{api.Text{Claims: []api.Claim{named("", 1, 1), named("", 2, 2), named("u", 3, 3), named("", 4, 4), named("v", 5, 5), named("u", 0, 0), named("v", 6, 6)}}, 0, 0},
		{api.Text{Name: " ", Claims: []api.Claim{named("\x00", 1, 1), named("\x00 ", 2, 2), named(" ", 1<<40, 9)}}, 1 << 40, 9},
	} {
		got, err := model.Build(x.text)
		isFault(t, "Build", got, err, api.Fault{Line: x.line, Col: x.col, Err: api.ErrTwice})
	}
	builds(t, api.Text{Claims: []api.Claim{named("", 1, 1), named("", 1, 1)}}, "min : 0 | R1: from none to none | R2: from none to none")
}

// P7.2: a name that stands first in each of the lists, and its order there.
func TestOrderOfVariables(t *testing.T) {
	reads(t, "min c + 2 b + c st d + b >= 1 x: a + d + c >= 2 bounds f <= 3 e >= 1 c free a <= 2 int h d g f binary j b i h end",
		"min : 0 | c 2 from none to none | b 2 from 0 to 1 whole | d 0 from 0 to none whole | a 0 from 0 to 2 | f 0 from 0 to 3 whole | e 0 from 1 to none | h 0 from 0 to 1 whole | g 0 from 0 to none whole | j 0 from 0 to 1 whole | i 0 from 0 to 1 whole | R1: 1@1 1@2 from 1 to none | x: 1@0 1@2 1@3 from 2 to none")
	reads(t, "min st bounds a free int b a binary c b end", "min : 0 | a 0 from none to none whole | b 0 from 0 to 1 whole | c 0 from 0 to 1 whole")
	reads(t, "min st 0 x = 0 end", "min : 0 | x 0 from 0 to none | R1: from 0 to 0")
	reads(t, "min st binary y x y end", "min : 0 | y 0 from 0 to 1 whole | x 0 from 0 to 1 whole")
}

// P7.2: empty names in each of the lists are passed over, and stand for no variable.
func TestEmptyNames(t *testing.T) {
	builds(t, api.Text{
		Items:  []api.Item{item("1", ""), item("2", "x"), item("3", "")},
		Claims: []api.Claim{claim("", has("5"), has("6"), item("1", ""), item("7", "y"))},
		Limits: []api.Limit{{SetLo: true, SetHi: true}, {Name: "z", SetHi: true, Hi: has("4")}, {SetLo: true, Lo: has("9")}},
		Wholes: mentions("", "w", ""),
		Twos:   mentions("", "v", ""),
	}, "min : 4 | x 2 from 0 to none | y 0 from 0 to none | z 0 from 0 to 4 | w 0 from 0 to none whole | v 0 from 0 to 1 whole | R1: 7@1 from 4 to 5")
	builds(t, api.Text{Limits: []api.Limit{{SetLo: true}}, Wholes: mentions(""), Twos: mentions("", "")}, "min : 0")
	builds(t, api.Text{Items: []api.Item{item("2", "x")}, Limits: []api.Limit{{SetLo: true, SetHi: true, Hi: has("1")}}, Wholes: mentions(""), Twos: mentions("")}, "min : 0 | x 2 from 0 to none")
}

// P7.2: the limits of a name, in order: each sets what it sets, to none too; those of binaries don't count.
func TestLimits(t *testing.T) {
	for text, want := range map[string]string{
		"": "0 to none", "x <= 5": "0 to 5", "x >= 5": "5 to none", "x = 5": "5 to 5", "x free": "none to none", "-2 <= x <= -1": "-2 to -1",
		"x <= 5 x >= 1": "1 to 5", "x >= 1 x <= 5": "1 to 5", "x <= 5 x <= 6": "0 to 6", "x <= 6 x <= 5": "0 to 5", "x <= 5 x <= inf": "0 to none", "x >= -inf x <= 5": "none to 5", "x <= 5 -inf <= x": "none to 5",
		"x <= 5 x free": "none to none", "x free x <= 5": "none to 5", "x free x >= 5": "5 to none", "x = 3 x >= 1": "1 to 3", "x >= 1 x = 3": "3 to 3", "x <= -1": "0 to -1", "4 <= x <= 3": "4 to 3",
	} {
		reads(t, "min x st bounds "+text+" end", "min : 0 | x 1 from "+want)
		reads(t, "min x st bounds "+text+" int x end", "min : 0 | x 1 from "+want+" whole")
		reads(t, "min x st bounds "+text+" bin x end", "min : 0 | x 1 from 0 to 1 whole")
		reads(t, "min x st bin x int x bounds "+text+" end", "min : 0 | x 1 from 0 to 1 whole")
	}
	reads(t, "min x + y st bounds y <= 5 x <= 3 z = 2 y free bin u end", "min : 0 | x 1 from 0 to 3 | y 1 from none to none | z 0 from 2 to 2 | u 0 from 0 to 1 whole")
}

// P7.2: a limit by hand that sets nothing changes nothing; what it has and doesn't set doesn't count; a bound that is absent is absent, whatever number stands in it.
func TestLimitsByHand(t *testing.T) {
	limit := func(setLo, setHi bool, lo, hi api.Bound) api.Limit {
		return api.Limit{Name: "x", SetLo: setLo, SetHi: setHi, Lo: lo, Hi: hi}
	}
	for _, x := range []struct {
		limits []api.Limit
		want   string
	}{
		{[]api.Limit{limit(false, false, has("3"), has("4"))}, "0 to none"},
		{[]api.Limit{limit(true, false, has("3"), has("4"))}, "3 to none"},
		{[]api.Limit{limit(false, true, has("3"), has("4"))}, "0 to 4"},
		{[]api.Limit{limit(true, true, hasNot("3"), hasNot("4"))}, "none to none"},
		{[]api.Limit{limit(true, true, has("3"), has("4")), limit(true, false, hasNot("7"), has("9"))}, "none to 4"},
		{[]api.Limit{limit(true, true, has("3"), has("4")), limit(false, true, has("9"), hasNot("7"))}, "3 to none"},
		{[]api.Limit{limit(true, true, api.Bound{Has: true, At: odd("-5/3")}, api.Bound{Has: true})}, "-5/3 to 0"},
	} {
		builds(t, api.Text{Limits: x.limits}, "min : 0 | x 0 from "+x.want)
		builds(t, api.Text{Limits: x.limits, Wholes: mentions("x", "x")}, "min : 0 | x 0 from "+x.want+" whole")
		builds(t, api.Text{Limits: x.limits, Twos: mentions("x")}, "min : 0 | x 0 from 0 to 1 whole")
	}
}

// P7.3: a row's coefficients, and its bounds less the constants, on whichever side these stand.
func TestRows(t *testing.T) {
	reads(t, "min st c: 2 x + y - 3 x + 1/2 y >= 1 end", "min : 0 | x 0 from 0 to none | y 0 from 0 to none | c: -1@0 3/2@1 from 1 to none")
	reads(t, "min y + x st c: x + y + x = 3 end", "min : 0 | y 1 from 0 to none | x 1 from 0 to none | c: 1@0 2@1 from 3 to 3")
	reads(t, "min st c: 4 + x - 1/2 + 1 <= 3 end", "min : 0 | x 0 from 0 to none | c: 1@0 from none to -3/2")
	reads(t, "min st c: 3 + 4 <= x - 2 <= - 1 end", "min : 0 | x 0 from 0 to none | c: 1@0 from 9 to 1")
	reads(t, "min st 1 - 3 = 1 - x x - 2 + 2 >= 0 end", "min : 0 | x 0 from 0 to none | R1: -1@0 from -3 to -3 | R2: 1@0 from 0 to none")
	reads(t, "min st x + 7 >= - inf 3 >= 2 + 4 1 <= 2 + y - y <= 9 end", "min : 0 | x 0 from 0 to none | y 0 from 0 to none | R1: 1@0 from none to none | R2: from 3 to none | R3: from -1 to 7")
	builds(t, api.Text{Claims: []api.Claim{
		claim("a", hasNot("5"), has("5"), item("2", ""), item("1", "x"), item("1/3", "")),
		claim("b", has("5"), hasNot("2"), item("-2", ""), item("0", "y"), item("1", "z"), item("-1", "z")),
		claim("c", hasNot("1"), hasNot("1"), item("1", "")),
		claim("d", has("2"), has("1")),
	}}, "min : 0 | x 0 from 0 to none | y 0 from 0 to none | z 0 from 0 to none | a: 1@0 from none to 8/3 | b: from 7 to none | c: from none to none | d: from 2 to 1")
}

// P7.1 to P7.3: numbers that are told otherwise than in the one form count for what they are, and are answered in it.
func TestNumbersInOtherForms(t *testing.T) {
	builds(t, api.Text{
		Items:  []api.Item{{Coef: odd("7/2"), Name: "x"}, {Coef: odd("-3/2"), Name: "x"}, {Coef: odd("5")}, {Coef: odd("1/3"), Name: "y"}},
		Claims: []api.Claim{{Name: "c", Items: []api.Item{{Coef: odd("2/3"), Name: "y"}, {Coef: odd("1")}}, Lo: api.Bound{Has: true, At: odd("1")}, Hi: api.Bound{Has: true, At: odd("8/3")}}},
		Limits: []api.Limit{{Name: "y", SetHi: true, Hi: api.Bound{Has: true, At: odd("-9")}}},
	}, "min : 5 | x 2 from 0 to none | y 1/3 from 0 to -9 | c: 2/3@1 from 0 to 5/3")
	for _, nought := range noughts() {
		builds(t, api.Text{
			Items:  []api.Item{{Coef: nought}, {Coef: nought, Name: "x"}},
			Claims: []api.Claim{{Name: "c", Items: []api.Item{{Coef: nought, Name: "x"}, {Coef: nought}}, Lo: api.Bound{Has: true, At: nought}, Hi: api.Bound{At: nought}}},
			Limits: []api.Limit{{Name: "x", SetLo: true, SetHi: true, Lo: api.Bound{At: nought}, Hi: api.Bound{Has: true, At: nought}}},
		}, "min : 0 | x 0 from none to 0 | c: from 0 to none")
	}
}

// P7.4: numbers are tried from the row's own one on, past the names of claims ahead and behind, of the objective and of rows ahead.
func TestNamesOfRows(t *testing.T) {
	for _, x := range []struct {
		objective string
		claims    []string
		want      []string
	}{
		{"", []string{"", "", ""}, []string{"R1", "R2", "R3"}},
		{"", []string{"R1", "", "R3", ""}, []string{"R1", "R2", "R3", "R4"}},
		{"", []string{"", "R1", "", "R2"}, []string{"R3", "R1", "R4", "R2"}},
		{"R1", []string{"", "", ""}, []string{"R2", "R3", "R4"}},
		{"R2", []string{"", "", "R4", ""}, []string{"R1", "R3", "R4", "R5"}},
		{"R4", []string{"", "", "", "", ""}, []string{"R1", "R2", "R3", "R5", "R6"}},
		{"", []string{"", "", "", "R3", "R2", "R1"}, []string{"R4", "R5", "R6", "R3", "R2", "R1"}},
		{"", []string{"R2", "", "", "", "R4", ""}, []string{"R2", "R3", "R5", "R6", "R4", "R7"}},
		{"", []string{"", "R1", "a", "b", "", ""}, []string{"R2", "R1", "a", "b", "R5", "R6"}},
		{"", []string{"r1", "", "R02", "R", "R+5", "", "R7 ", ""}, []string{"r1", "R2", "R02", "R", "R+5", "R6", "R7 ", "R8"}},
		{"R", []string{"R0", "R-1", "", "R3"}, []string{"R0", "R-1", "R4", "R3"}},
		{"z", []string{"R10", "", "", "", "", "", "", "", "", "", "R11", "R9"}, []string{"R10", "R2", "R3", "R4", "R5", "R6", "R7", "R8", "R12", "R13", "R11", "R9"}},
	} {
		text := api.Text{Name: x.objective, Items: []api.Item{item("1", "R1"), item("1", "R2")}, Limits: []api.Limit{{Name: "R3"}}}
		want := "min " + x.objective + ": 0 | R1 1 from 0 to none | R2 1 from 0 to none | R3 0 from 0 to none"
		for i, name := range x.claims {
			text.Claims = append(text.Claims, claim(name, api.Bound{}, api.Bound{}))
			want += " | " + x.want[i] + ": from none to none"
		}
		builds(t, text, want)
	}
}

// P7.5: the faults of parse.Parse, each as it is there, ahead of Build's; and what is read is Build of what is parsed.
func TestRead(t *testing.T) {
	for _, s := range []string{"", "min st x >= end", "min a: st a: x >= 1 a: x <= ", "min st x * y", "min st x <= y end", "min st 1 = x = 1 end", "min 1/0 st end", "min st 1e10000 x >= 1 end", "min st a: x >= 1 a: x >= 1", "min st a: x >= 1 a: x >= 1 end end"} {
		_, want := parse.Parse(s)
		f, ok := want.(*api.Fault)
		if !ok {
			t.Fatalf("parse.Parse(%q): %v", s, want)
		}
		got, err := model.Read(s)
		isFault(t, s, got, err, *f)
	}
	failsAt(t, "max z: x st z2: x >= 1 \\ z: x\n ^z: x >= 3 end", api.ErrTwice)
}

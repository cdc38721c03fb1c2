package mps_test

import (
	"strings"
	"testing"

	"vertex/api"
	"vertex/mps"
)

// reading is what Read answers.
type reading struct {
	p   api.Problem
	err error
}

func readingOf(text string) reading {
	p, err := mps.Read(text)
	return reading{p, err}
}

// Coefficients are added up, of the objective and of rows, within an entry and over several; those that come to nought are no terms.
func TestCoefficients(t *testing.T) {
	for _, x := range []struct{ entries, want string }{
		{" x c 1/2| x c 0.5", "x 1 from 0 to none | a: | b:"},
		{" x c 1 c 2", "x 3 from 0 to none | a: | b:"},
		{" x a 1 a 2| x a 3/4", "x 0 from 0 to none | a: 15/4@0 | b:"},
		{" x a 1 a -1", "x 0 from 0 to none | a: | b:"},
		{" x a 1| y a 1| x a -1", "x 0 from 0 to none | y 0 from 0 to none | a: 1@1 | b:"},
		{" x c 1| x c -1", "x 0 from 0 to none | a: | b:"},
		{" x a 0 b 0", "x 0 from 0 to none | a: | b:"},
		{" y b 1| x b 2 a 3| y a 4 c 5| x c 6", "y 5 from 0 to none | x 6 from 0 to none | a: 4@0 3@1 | b: 1@0 2@1"},
		{" c c 1| a a 2| b b 3", "c 1 from 0 to none | a 0 from 0 to none | b 0 from 0 to none | a: 2@1 | b: 3@2"},
		{" - c 1| X c 2| x c 3", "- 1 from 0 to none | X 2 from 0 to none | x 3 from 0 to none | a: | b:"},
		{"", " | a: | b:"},
	} {
		want := "min c: 0 | " + x.want
		want = strings.ReplaceAll(strings.Replace(want, " |  | ", " | ", 1), " | b:", " from none to none | b:") + " from none to none"
		reads(t, "ROWS| N c| N a| N b|COLUMNS|"+x.entries+"|ENDATA", want)
	}
}

// Variables and rows stand in the order in which they were named first.
func TestOrder(t *testing.T) {
	reads(t, "ROWS| G z| N c| L y| E a| N b|COLUMNS| v c 1| u c 1| v z 1| w c 1| u a 1|RHS| a 1 z 2|BOUNDS| UP w 1| UP v 2|ENDATA",
		"min c: 0 | v 1 from 0 to 2 | u 1 from 0 to none | w 1 from 0 to 1 | z: 1@0 from 2 to none | y: from none to 0 | a: 1@1 from 1 to 1 | b: from none to none")
}

// Markers: which of the variables that are new behind them are whole; the first word isn't looked at, and one that was named ahead stays as it was.
func TestMarkers(t *testing.T) {
	const on, off = " m 'MARKER' 'INTORG'|", " m 'MARKER' 'INTEND'|"
	for _, x := range []struct{ entries, want string }{
		{" x c 1|" + on + " y c 1|" + off + " z c 1|", "x, y whole, z"},
		{on + " x c 1|" + on + " y c 1|", "x whole, y whole"},
		{off + " x c 1|" + off + on + off + " y c 1|", "x, y"},
		{" x c 1|" + on + " x c 1| y c 1|" + off + " y c 1|", "x, y whole"},
		{on + off, ""},
		{on + " x c 0|" + off + on + " y c 0|", "x whole, y whole"},
		{" x 'MARKER' 'INTORG'| x c 1|", "x whole"},
		{" 'MARKER' 'MARKER' 'INTORG'| 'MARKER' c 1|", "'MARKER' whole"},
		{" 'INTORG' 'MARKER' 'INTORG'| 'INTEND' 'MARKER' 'INTEND'| m c 1|", "m"},
		{"\tm\t'MARKER'\r'INTORG' |\tx c 1|", "x whole"},
	} {
		p := readingOf(lined("ROWS| N c|COLUMNS|" + x.entries + "ENDATA"))
		var got []string
		for _, v := range p.p.Vars {
			got = append(got, v.Name+map[bool]string{true: " whole"}[v.Whole])
			if told := boundOf(v.Lo) + " " + boundOf(v.Hi); told != "0 none" {
				t.Errorf("%q: the bounds of %s: %s", x.entries, v.Name, told)
			}
		}
		if p.err != nil || strings.Join(got, ", ") != x.want {
			t.Errorf("%q: %v, %v, want %s", x.entries, got, p.err, x.want)
		}
	}
}

// P9.3: a marker is one whatever else there is, a row of its name too; what is no marker is an entry like all others.
func TestMarkersAndRows(t *testing.T) {
	const rows = "ROWS| N 'MARKER'| G 'INTORG'|COLUMNS|"
	reads(t, rows+" x 'MARKER' 'INTORG'| y 'MARKER' 1|ENDATA", "min 'MARKER': 0 | y 1 from 0 to none whole | 'INTORG': from 0 to none")
	reads(t, rows+" x 'MARKER' 1 'INTORG' 2|ENDATA", "min 'MARKER': 0 | x 1 from 0 to none | 'INTORG': 2@0 from 0 to none")
	fails(t, rows+" x 'MARKER' 'intorg'|ENDATA", 5, 13, api.ErrNumber)
	fails(t, rows+" x 'MARKER' INTORG|ENDATA", 5, 13, api.ErrNumber)
	fails(t, rows+" x 'MARKER' 'INTORG' 'INTORG' 1|ENDATA", 5, 13, api.ErrNumber)
	for _, word := range []string{"MARKER", "'marker'", "\"MARKER\"", "'MARKER"} {
		fails(t, "ROWS| N c|COLUMNS| m "+word+" 'INTORG'|ENDATA", 4, 4, api.ErrName)
	}
	for _, word := range []string{"INTORG", "'INTORGS'", "1", "'MARKER'"} {
		fails(t, "ROWS| N c|COLUMNS| m 'MARKER' "+word+"|ENDATA", 4, 4, api.ErrName)
	}
	fails(t, "ROWS| N c|RHS| m 'MARKER' 'INTORG'|ENDATA", 4, 4, api.ErrName)
	fails(t, "COLUMNS| m 'MARKER' 'INTORG' c 1|ENDATA", 2, 4, api.ErrName)
	reads(t, "COLUMNS| m 'MARKER' 'INTORG'|ENDATA", "min : 0")
}

// ranges are a row's bounds by its kind, its RHS and its RANGE ("": nothing says it).
var ranges = []struct{ kind, rhs, reach, want string }{
	{"G", "", "", "from 0 to none"}, {"L", "", "", "from none to 0"}, {"E", "", "", "from 0 to 0"}, {"N", "", "", "from none to none"},
	{"G", "0", "", "from 0 to none"}, {"L", "0", "", "from none to 0"}, {"E", "0", "", "from 0 to 0"},
	{"G", "4", "", "from 4 to none"}, {"L", "4", "", "from none to 4"}, {"E", "4", "", "from 4 to 4"},
	{"G", "-1/2", "", "from -1/2 to none"}, {"L", "-1/2", "", "from none to -1/2"}, {"E", "-1/2", "", "from -1/2 to -1/2"},
	{"G", "", "3", "from 0 to 3"}, {"L", "", "3", "from -3 to 0"}, {"E", "", "3", "from 0 to 3"},
	{"G", "4", "3", "from 4 to 7"}, {"L", "4", "3", "from 1 to 4"}, {"E", "4", "3", "from 4 to 7"},
	{"G", "4", "-3", "from 4 to 1"}, {"L", "4", "-3", "from 7 to 4"}, {"E", "4", "-3", "from 1 to 4"},
	{"G", "", "-1/3", "from 0 to -1/3"}, {"L", "", "-1/3", "from 1/3 to 0"}, {"E", "", "-1/3", "from -1/3 to 0"},
	{"G", "4", "0", "from 4 to 4"}, {"L", "4", "0", "from 4 to 4"}, {"E", "4", "0", "from 4 to 4"},
	{"G", "-4", "-0", "from -4 to -4"}, {"L", "-4", "0/7", "from -4 to -4"}, {"E", "-4", "-0.0", "from -4 to -4"},
	{"G", "1/2", "1/3", "from 1/2 to 5/6"}, {"L", "1/2", "1/3", "from 1/6 to 1/2"}, {"E", "1/2", "-1/3", "from 1/6 to 1/2"},
	{"E", "-1", "-1e30", "from -1000000000000000000000000000001 to -1"},
}

// A row's bounds by its kind, its RHS and its RANGE, with and without the word ahead, as an entry's first pair and as its second; and said twice, of which the last holds.
func TestRHSAndRanges(t *testing.T) {
	for _, x := range ranges {
		for _, set := range []string{" ", " set ", " r ", " c ", "\t7 "} {
			say := func(head, number string) [3]string {
				if number == "" {
					return [3]string{}
				}
				once := set + "r " + number + "|"
				return [3]string{head + once, head + set + "z 9 r " + number + "|", head + set + "r 77 z 8|" + set + "r 78|" + once}
			}
			for _, rhs := range say("RHS|", x.rhs) {
				for _, reach := range say("RANGES|", x.reach) {
					p := readingOf(lined("ROWS| N c| " + x.kind + " r| G z|" + rhs + reach + "ENDATA"))
					if p.err != nil || !strings.HasPrefix(told(p.p), "min c: 0 | r: "+x.want+" | z: ") {
						t.Errorf("%v, %q, %q: %s, %v", x, rhs, reach, told(p.p), p.err)
					}
				}
			}
		}
	}
}

// An RHS of the objective, with and without the word ahead; the last one holds, nought too.
func TestRHSOfTheObjective(t *testing.T) {
	for entries, want := range map[string]string{
		" c 3":                "-3",
		" set c 3":            "-3",
		" c c -3/6":           "1/2",
		" c 1 r 2":            "-1",
		" r 2 c 1":            "-1",
		" set r 2 c -1":       "1",
		" c 1| c 2":           "-2",
		" c 1 c 2":            "-2",
		" c 1| set c 0":       "0",
		" r 5":                "0",
		" c -1e-3| r 1| r 2 ": "1/1000",
	} {
		p := readingOf(lined("ROWS| N c| G r|RHS|" + entries + "|ENDATA"))
		if p.err != nil || numberOf(p.p.Const) != want {
			t.Errorf("%q: %s, %v, want %s", entries, numberOf(p.p.Const), p.err, want)
		}
	}
}

// edge is what is known of a variable as its bounds are told one behind the other.
type edge struct {
	lo, hi string
	whole  bool
}

// after tells what a kind makes of a variable.
func (e edge) after(kind string) edge {
	switch kind {
	case "LO 5/2":
		return edge{"5/2", e.hi, e.whole}
	case "LO -2":
		return edge{"-2", e.hi, e.whole}
	case "UP 7":
		return edge{e.lo, "7", e.whole}
	case "UP -7/3":
		return edge{e.lo, "-7/3", e.whole}
	case "FX 0":
		return edge{"0", "0", e.whole}
	case "FX 4":
		return edge{"4", "4", e.whole}
	case "FR":
		return edge{"none", "none", e.whole}
	case "MI":
		return edge{"none", e.hi, e.whole}
	case "PL":
		return edge{e.lo, "none", e.whole}
	case "BV":
		return edge{"0", "1", true}
	}
	panic("the test's own kind is none: " + kind)
}

// Each kind of bounds, each pair of them, and each three of them, with and without the word ahead, of variables that are whole and of such that aren't.
func TestLimits(t *testing.T) {
	kinds := []string{"LO 5/2", "LO -2", "UP 7", "UP -7/3", "FX 0", "FX 4", "FR", "MI", "PL", "BV"}
	entry := func(kind, set string) string {
		name, number, _ := strings.Cut(kind, " ")
		return strings.TrimSuffix(" "+name+set+" x "+number, " ") + "|"
	}
	var said func(entries string, e edge, depth int)
	for _, whole := range []bool{false, true} {
		marker := map[bool]string{true: " m 'MARKER' 'INTORG'|"}[whole]
		said = func(entries string, e edge, depth int) {
			want := "min c: 0 | y 1 from 0 to none | x 1 from " + e.lo + " to " + e.hi + map[bool]string{true: " whole"}[e.whole]
			reads(t, "ROWS| N c|COLUMNS| y c 1|"+marker+" x c 1|BOUNDS|"+entries+"ENDATA", want)
			if depth == 0 {
				return
			}
			for _, kind := range kinds {
				for _, set := range []string{"", " set", " x", " y", " UP"} {
					if set == "" || depth == 3 {
						said(entries+entry(kind, set), e.after(kind), depth-1)
					}
				}
			}
		}
		said("", edge{"0", "none", whole}, 3)
	}
}

// Bounds of one variable say nothing of another, nor of a row of its name.
func TestLimitsOfOthers(t *testing.T) {
	reads(t, "ROWS| N c| G x|COLUMNS| x c 1| y c 1| c c 1|BOUNDS| FX x 1| FR c| UP y 2|ENDATA", "min c: 0 | x 1 from 1 to 1 | y 1 from 0 to 2 | c 1 from none to none | x: from 0 to none")
}

package solve_test

import (
	"strings"
	"testing"
)

// The chapter's first example.
const example = `maximize
 3 x + 2 y
subject to
 c1: x + y <= 4
 c2: x + 3 y <= 6
bounds
 x <= 3
end
`

// P19.2: the chapter's examples, byte by byte.
func TestExamples(t *testing.T) {
	solves(t, example, 0, "optimal", "value 11", "var x 3", "var y 1", "row c1 2", "row c2 0", "end")
	solves(t, "min x\nsubject to\nx >= 1\n-x >= 0\nend\n", 0, "infeasible", "row R1 1", "row R2 1", "end")
	solves(t, "max x + y\nsubject to\nx - y = 0\nend\n", 0, "unbounded", "var x 0 1", "var y 0 1", "end")
}

// P19.2: optimal, where nothing must be whole.
func TestOptimal(t *testing.T) {
	// Without variables and rows.
	solves(t, "min st end", 0, "optimal", "value 0", "end")
	solves(t, "max 1/3 - 1 st end", 0, "optimal", "value -2/3", "end")
	// Without variables.
	solves(t, "max 7 st c: 0 <= 3 2 >= 1 end", 0, "optimal", "value 7", "row c 0", "row R2 0", "end")
	// Without rows; variables that are named nowhere but among the bounds.
	solves(t, "min 2x - 3 y + 1/2 st bounds x >= -5/2 y <= 4 z free end", 0, "optimal", "value -33/2", "var x -5/2", "var y 4", "var z 0", "end")
	// Names that are written, and one that is given, as they stand.
	solves(t, "min x st x >= 1 R1: x >= 2 x <= 9 end", 0, "optimal", "value 2", "var x 2", "row R2 0", "row R1 1", "row R3 0", "end")
	solves(t, "min cost: X#1 st value: X#1 >= 2 end", 0, "optimal", "value 2", "var X#1 2", "row value 1", "end")
	// Fractions, and numbers below nought.
	solves(t, "max z: x - y st a: 2 x + 3 y <= 7 b: y >= 1/3 bounds x <= 1/2 end", 0, "optimal", "value 1/6", "var x 1/2", "var y 1/3", "row a 0", "row b -1", "end")
	solves(t, "min x + y st -2 x - 3 y >= -7 x + y >= -1/2 bounds x free -inf <= y <= 4 end", 0, "optimal", "value -1/2", "var x -9/2", "var y 4", "row R1 0", "row R2 1", "end")
}

// P19.2: infeasible, where nothing must be whole: rows alone are told.
func TestInfeasible(t *testing.T) {
	solves(t, "min st 3 <= 2 end", 0, "infeasible", "row R1 -1", "end")
	solves(t, "min x st c: 1 <= 0 end", 0, "infeasible", "row c -1", "end")
	solves(t, "min x st bounds 3 <= x <= 2 end", 0, "infeasible", "end")
	solves(t, "max x st x >= 1/2 - 3 x >= 2 R7: x <= 9 end", 0, "infeasible", "row R1 1", "row R2 1", "row R7 0", "end")
	// In a text that asks for the greatest value the multipliers aren't turned.
	solves(t, "max 5 x st 2 x >= 3 x <= 1 end", 0, "infeasible", "row R1 1", "row R2 -2", "end")
}

// P19.2: unbounded, where nothing must be whole: variables alone are told.
func TestUnbounded(t *testing.T) {
	solves(t, "max x st end", 0, "unbounded", "var x 0 1", "end")
	solves(t, "min x st bounds x free end", 0, "unbounded", "var x 0 -1", "end")
	solves(t, "max x - y st - x + 2 y <= 3 low: x + y >= 5/2 bounds y >= 1 end", 0, "unbounded", "var x 3/2 1", "var y 1 0", "end")
	solves(t, "min 2 x - 3 y st e: x - 1/3 y = 1 bounds x free y free end", 0, "unbounded", "var x 1 1/3", "var y 0 1", "end")
}

// P19.3: optimal, where something must be whole: neither rows nor the tree are told, but how many nodes it has.
func TestWholeOptimal(t *testing.T) {
	solves(t, "max 5x + 4y st r: 6x + 4y <= 24 s: x + 2y <= 6 bounds x <= 5 y <= 5 int x y end", 0, "optimal", "value 20", "var x 4", "var y 0", "nodes 5", "end")
	solves(t, "max x st 2 x <= 5 bounds x <= 10 general x end", 0, "optimal", "value 2", "var x 2", "nodes 3", "end")
	solves(t, "min 3 x - y + 1/2 st bounds -3/2 <= x <= 5 y <= 1/3 int x end", 0, "optimal", "value -17/6", "var x -1", "var y 1/3", "nodes 3", "end")
	solves(t, "min 7 + u st nodes: 0 <= 1 binary u end", 0, "optimal", "value 7", "var u 0", "nodes 1", "end")
	// Only one of them must be whole, and the last one is.
	solves(t, "max x + y st bounds x <= 3/2 y <= 3/2 int y end", 0, "optimal", "value 5/2", "var x 3/2", "var y 1", "nodes 3", "end")
}

// P19.3: infeasible, where something must be whole: without points at all, or without whole ones.
func TestWholeInfeasible(t *testing.T) {
	solves(t, "min x st bounds 1/3 <= x <= 2/3 int x end", 0, "infeasible", "nodes 3", "end")
	solves(t, "min x st x >= 1/3 x <= 2/3 bounds x <= 1 general x end", 0, "infeasible", "nodes 3", "end")
	solves(t, "min x st c: 2 <= 1 bounds x <= 1 int x end", 0, "infeasible", "nodes 1", "end")
	solves(t, "max x st bounds 2 <= x <= 1 int x end", 0, "infeasible", "nodes 1", "end")
	// Values would pass every bound, if there were a whole point.
	solves(t, "max y st 2 x = 1 bounds x <= 1 int x end", 0, "infeasible", "nodes 3", "end")
}

// P19.3: unbounded, where something must be whole.
func TestWholeUnbounded(t *testing.T) {
	solves(t, "max x + y st bounds x <= 3/2 int x end", 0, "unbounded", "var x 1 0", "var y 0 1", "nodes 2", "end")
	solves(t, "min x - y st r: y - 1/2 z = 0 bounds x >= 1 u = -3 int u end", 0, "unbounded", "var x 1 0", "var y 0 1/2", "var z 0 1", "var u -3 0", "nodes 1", "end")
}

// P19.3: a search is stopped ahead of the node 1001, whether or not there is a point so far, and whatever it would have come to.
func TestStopped(t *testing.T) {
	// 999 nodes, and 1001.
	solves(t, "min x st 2 x - 2 y = 1 bounds x <= 250 y <= 249 int x y end", 0, "infeasible", "nodes 999", "end")
	solves(t, "min x st 2 x - 2 y = 1 bounds x <= 250 y <= 250 int x y end", 1, "stopped", "nodes 1000", "end")
	solves(t, "min 0 x + 0 y + u st 2 x - 2 y + u = 1 bounds x <= 250 y <= 249 u <= 1 int x y u end", 0, "optimal", "value 1", "var x 0", "var y 0", "var u 1", "nodes 999", "end")
	solves(t, "min 0 x + 0 y + u st 2 x - 2 y + u = 1 bounds x <= 250 y <= 250 u <= 1 int x y u end", 1, "stopped", "nodes 1000", "end")
	// Values would pass every bound.
	solves(t, "max z st 2 x - 2 y = 1 bounds x <= 250 y <= 250 int x y end", 1, "stopped", "nodes 1000", "end")
}

// P19.3: a whole variable without a bound, whatever else there is.
func TestOpen(t *testing.T) {
	const open = "error vertex: a whole variable without both bounds"
	for _, text := range []string{
		"max x st x <= 5/2 general x end",
		"min x st bounds -inf <= x <= 3 int x end",
		"min x st bounds x free int x end",
		"min x st 2 <= 1 int x end",
		"max y st bounds x <= 1 int x z end",
	} {
		solves(t, text, 2, open)
	}
	solvesMps(t, "ROWS| N c|COLUMNS| m 'MARKER' 'INTORG'| x c 1|ENDATA", 2, open)
	// The other ones may lack theirs, and binary ones have both.
	solves(t, "min x st bounds y free binary x end", 0, "optimal", "value 0", "var x 0", "var y 0", "nodes 1", "end")
}

// P19.1: texts that can't be read, of each kind of error, told as it tells itself.
func TestTextsThatCannotBeRead(t *testing.T) {
	for text, want := range map[string]string{
		"":                                    "1:1: vertex: something else is due here",
		"\n\n":                                "3:1: vertex: something else is due here",
		"min":                                 "1:4: vertex: something else is due here",
		"optimal\nvalue 0\nend\n":             "1:1: vertex: something else is due here",
		example + "x":                         "9:1: vertex: something else is due here",
		"max x st\n x <= y end":               "2:7: vertex: names on both sides",
		"min st 1 <= x\n >= 0 end":            "2:2: vertex: two signs that do not go together",
		"max a: x st a: x <= 1 end":           "1:13: vertex: a name twice",
		"min x st a: x >= 1\n\na: x >= 2 end": "3:1: vertex: a name twice",
		"max x st x <= * end":                 "1:15: vertex: a byte that begins nothing",
		"max x \x00 st end":                   "1:7: vertex: a byte that begins nothing",
		"max x st\nx <= . end":                "2:6: vertex: no number",
		"max 1e10000 x st end":                "1:5: vertex: an exponent above the bound",
		"max x st x <= 3/0 end":               "1:15: vertex: divided by nought",
	} {
		solves(t, text, 2, "error "+want)
	}
	// What can't be read is told ahead of what can't be solved.
	solves(t, "max x st x <= y int x end", 2, "error 1:15: vertex: names on both sides")
}

// P19.6: texts in the MPS format.
func TestMps(t *testing.T) {
	solvesMps(t, "NAME|OBJSENSE| MAX|ROWS| N z| L c|COLUMNS| x z 3| x c 2|RHS| RHS c 5|ENDATA|", 0, "optimal", "value 15/2", "var x 5/2", "row c 3/2", "end")
	solvesMps(t, "ROWS| N c| G r|COLUMNS| x c 1 r 2|RHS| b r 4|ENDATA", 0, "optimal", "value 2", "var x 2", "row r 1/2", "end")
	solvesMps(t, "ENDATA", 0, "optimal", "value 0", "end")
	// Names that no text of the other format may have; a row without bounds.
	solvesMps(t, "ROWS| N -| E <=| N 3|COLUMNS| -x - 1 <= 1| end <= -1 3 2|RHS| - 1/2 <= -1/3|ENDATA", 0, "optimal", "value -1/2", "var -x 0", "var end 1/3", "row <= 0", "row 3 0", "end")
	solvesMps(t, "ROWS| N c| L \xff| G \xe4|COLUMNS| \x80 \xff 1 \xe4 1|RHS| \xff 1 \xe4 2|ENDATA", 0, "infeasible", "row \xff -1", "row \xe4 1", "end")
	solvesMps(t, "ROWS| N c|COLUMNS| x c -1|ENDATA", 0, "unbounded", "var x 0 1", "end")
	solvesMps(t, "ROWS| N c|COLUMNS| x c -1|BOUNDS| UP x 5/2| BV x| UP x 3/2|ENDATA", 0, "optimal", "value -1", "var x 1", "nodes 3", "end")
	solvesMps(t, "ROWS| N c|COLUMNS| m 'MARKER' 'INTORG'| x c 1| m 'MARKER' 'INTEND'| y c -1|BOUNDS| UP x 3|ENDATA", 0, "unbounded", "var x 3 0", "var y 0 1", "nodes 1", "end")
	solvesMps(t, "ROWS| N c|COLUMNS| x c 1|BOUNDS| LO x 1/3| UP x 2/3| BV x| LO x 1/3| UP x 2/3|ENDATA", 0, "infeasible", "nodes 3", "end")
	solvesMps(t, "ROWS| N c| E r|COLUMNS| m 'MARKER' 'INTORG'| x r 2| y r -2|RHS| r 1|BOUNDS| UP x 250| UP y 250|ENDATA", 1, "stopped", "nodes 1000", "end")
}

// P19.6: texts in the MPS format that can't be read, of each kind of error.
func TestMpsTextsThatCannotBeRead(t *testing.T) {
	for text, want := range map[string]string{
		"":                                 "1:1: vertex: a section that is not due here",
		"ROWS|":                            "2:1: vertex: a section that is not due here",
		"ROWS| N c|NAME|ENDATA":            "3:1: vertex: a section that is not due here",
		" N c":                             "1:2: vertex: a section that is not due here",
		"ROWS| Q c|ENDATA":                 "2:2: vertex: a field that may not be",
		"ROWS| N c d|ENDATA":               "2:6: vertex: a field that may not be",
		"ROWS| N c| G c|ENDATA":            "3:4: vertex: a name twice",
		"ROWS| N c|COLUMNS| x d 1|ENDATA":  "4:4: vertex: a name that may not be",
		"ROWS| N c|COLUMNS| x c 1.|RHS|x":  "6:1: vertex: a section that is not due here",
		"ROWS| N c|COLUMNS| x c one|":      "4:6: vertex: no number",
		"ROWS| N c|COLUMNS| x c 1e-10000|": "4:6: vertex: an exponent above the bound",
		"ROWS| N c|COLUMNS| x c 1/0|":      "4:6: vertex: divided by nought",
	} {
		solvesMps(t, text, 2, "error "+want)
	}
	// Each of the two reads its own format alone.
	solvesMps(t, example, 2, "error 1:1: vertex: a section that is not due here")
	solves(t, "ENDATA\n", 2, "error 1:1: vertex: something else is due here")
}

// P19.1: whatever bytes, however long: a text that goes on for ever, numbers of thousands of digits.
func TestLongTexts(t *testing.T) {
	long := strings.Repeat("7", 3001)
	solves(t, "max x st c: 3 x <= "+long+" end", 0, "optimal", "value "+long+"/3", "var x "+long+"/3", "row c 1/3", "end")
	solves(t, "min x"+strings.Repeat(" + x", 5000)+" st x >= 1 end", 0, "optimal", "value 5001", "var x 1", "row R1 5001", "end")
	name := strings.Repeat("n", 5000)
	solves(t, "max "+name+" st end", 0, "unbounded", "var "+name+" 0 1", "end")
	solves(t, "min 1e9999 x st bounds x >= 1e-9999 end", 0, "optimal", "value 1", "var x 1/1"+strings.Repeat("0", 9999), "end")
}

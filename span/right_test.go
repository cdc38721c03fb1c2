package span_test

import (
	"testing"

	"vertex/api"
	"vertex/span"
)

// The chapter's examples of Right and At.
func TestRightExamples(t *testing.T) {
	rights(t, made, []int{0, 3}, 0, "0, 6")
	rights(t, made, []int{0, 3}, 1, "4, none")
	rights(t, made, []int{0, 3}, -1, "ErrArg")
	comesTo(t, made, []int{0, 3}, 0, "5", "-15")
	comesTo(t, made, []int{0, 3}, 1, "9", "-12")
	comesTo(t, made, []int{0, 3}, 0, "7", "ErrArg")
	rights(t, twins, []int{0}, 0, "2, 2")
	rights(t, twins, []int{0}, 1, "2, 2")
}

// P17.4, P17.5: rows with both ends, with one of them, and with ends that touch.
func TestRight(t *testing.T) {
	rights(t, "1 = 4; C 0", []int{0}, 0, "0, none")
	rights(t, "-1 = -4; C 0", []int{0}, 0, "none, 0")
	rights(t, "2 0 = 4; 3 1 = 7; C 0 0", []int{0, 1}, 0, "0, 14/3")
	rights(t, "2 0 = 4; 3 1 = 7; C 0 0", []int{0, 1}, 1, "6, none")
	rights(t, "1 0 = 0; 1 1 = 0; C 0 0", []int{0, 1}, 0, "0, 0")
	rights(t, "1 0 = 0; -1 1 = 0; C 0 0", []int{0, 1}, 0, "0, none")
	// Below nought it may be turned, and still be the same row.
	rights(t, "1 -1 = 4; 0 1 = 3; C 0 0", []int{0, 1}, 0, "-3, none")
	rights(t, "1 -1 = -1; 0 1 = 3; C 0 0", []int{0, 1}, 0, "-3, none")
}

// P17.5: of several rows the tightest one counts, wherever it stands.
func TestTightestRight(t *testing.T) {
	for _, text := range []string{
		"1 0 0 0 = 4; 1 1 0 0 = 7; 1 0 1 0 = 5; 1 0 0 1 = 6; C 0 0 0 0",
		"1 0 0 0 = 4; 1 1 0 0 = 5; 1 0 1 0 = 6; 1 0 0 1 = 7; C 0 0 0 0",
		"1 0 0 0 = 4; 1 1 0 0 = 7; 1 0 1 0 = 6; 1 0 0 1 = 5; C 0 0 0 0",
	} {
		rights(t, text, []int{0, 1, 2, 3}, 0, "0, 5")
	}
	for _, text := range []string{
		"1 0 0 0 = 4; -1 1 0 0 = -3; -1 0 1 0 = -1; -1 0 0 1 = -2; C 0 0 0 0",
		"1 0 0 0 = 4; -1 1 0 0 = -1; -1 0 1 0 = -2; -1 0 0 1 = -3; C 0 0 0 0",
		"1 0 0 0 = 4; -1 1 0 0 = -3; -1 0 1 0 = -2; -1 0 0 1 = -1; C 0 0 0 0",
	} {
		rights(t, text, []int{0, 1, 2, 3}, 0, "3, none")
	}
}

// P17.5: turned rows: the other way round, and the other rows as if they weren't.
func TestRightOfTurnedRows(t *testing.T) {
	const turned = "-1 -1 -1 0 = -4; 1 3 0 1 = 6; C -3 -2 0 0"
	rights(t, turned, []int{0, 3}, 0, "-6, 0")
	rights(t, turned, []int{0, 3}, 1, "4, none")
	comesTo(t, turned, []int{0, 3}, 0, "-5", "-15")
	comesTo(t, turned, []int{0, 3}, 0, "0", "0")
	comesTo(t, turned, []int{0, 3}, 0, "-6", "-18")
	comesTo(t, turned, []int{0, 3}, 0, "5", "ErrArg")
	comesTo(t, turned, []int{0, 3}, 1, "9", "-12")
	const both = "-1 -1 -1 0 = -4; -1 -3 0 -1 = -6; C -3 -2 0 0"
	rights(t, both, []int{0, 3}, 0, "-6, 0")
	rights(t, both, []int{0, 3}, 1, "none, -4")
	comesTo(t, both, []int{0, 3}, 1, "-100", "-12")
}

// P17.5: with a row that is gone another row may be changed only if the one that is gone doesn't hang on it.
func TestRightWithRowsThatAreGone(t *testing.T) {
	const text = "1 0 = 2; 0 1 = 3; 0 2 = 6; C 1 1"
	rights(t, text, []int{0, 1}, 0, "0, none")
	rights(t, text, []int{0, 1}, 1, "3, 3")
	rights(t, text, []int{0, 1}, 2, "6, 6")
	const turned = "0 -2 = -6; 1 0 = 2; 0 1 = 3; C 1 1"
	rights(t, turned, []int{0, 1}, 0, "-6, -6")
	rights(t, turned, []int{1, 0}, 1, "0, none")
	rights(t, turned, []int{0, 1}, 2, "3, 3")
	// The third row is the sum of the others; the fourth one hangs on none.
	const sum = "1 0 1 = 2; 0 1 1 = 3; 1 1 2 = 5; 1 1 0 = 5; C 0 0 0"
	for i, want := range []string{"2, 2", "3, 3", "5, 5", "1, 5"} {
		rights(t, sum, []int{0, 1, 2}, i, want)
	}
}

// P17.5: a row of noughts can be met by nought alone, and is nothing to the others.
func TestRightWithRowsOfNoughts(t *testing.T) {
	const text = "0 0 = 0; 1 1 = 2; C 1 2"
	rights(t, text, []int{0}, 0, "0, 0")
	rights(t, text, []int{0}, 1, "0, none")
	comesTo(t, text, []int{0}, 0, "0", "2")
	comesTo(t, text, []int{0}, 0, "1/1000000", "ErrArg")
	comesTo(t, text, []int{0}, 0, "-1/1000000", "ErrArg")
	comesTo(t, text, []int{0}, 1, "5", "5")
}

// P17.4, P17.6: standards with no columns: their rows can be met by nought alone.
func TestRightWithNoColumns(t *testing.T) {
	for _, basis := range [][]int{nil, {0}, {0, 1, -1}} {
		rights(t, "= 0; = 0; C; K 7/2", basis, 0, "0, 0")
		rights(t, "= 0; = 0; C; K 7/2", basis, 1, "0, 0")
		comesTo(t, "= 0; = 0; C; K 7/2", basis, 1, "0", "7/2")
		comesTo(t, "= 0; = 0; C; K 7/2", basis, 1, "1", "ErrArg")
		rights(t, "= 0; = 1; C; K 7/2", basis, 0, "ErrState")
	}
}

// P17.6: within the span, at its ends, at the row's own right side, and beyond by a hair.
func TestAt(t *testing.T) {
	for right, want := range map[string]string{"0": "0", "1/3": "-1", "4": "-12", "11/2": "-33/2", "6": "-18", "-1/1000000000000000000000000": "ErrArg", "6000000000000000000000001/1000000000000000000000000": "ErrArg", "-100": "ErrArg", "100": "ErrArg"} {
		comesTo(t, made, []int{0, 3}, 0, right, want)
	}
	for right, want := range map[string]string{"4": "-12", "6": "-12", "100000000000000000000000000000": "-12", "3999999999999999999999999/1000000000000000000000000": "ErrArg", "0": "ErrArg"} {
		comesTo(t, made, []int{0, 3}, 1, right, want)
	}
	for right, want := range map[string]string{"2": "1", "3": "ErrArg", "1": "ErrArg"} {
		comesTo(t, twins+"; K -1", []int{0}, 0, right, want)
		comesTo(t, twins+"; K -1", []int{0}, 1, right, want)
	}
}

// P17.6: K counts, once.
func TestAtWithK(t *testing.T) {
	comesTo(t, made+"; K 5", []int{0, 3}, 0, "4", "-7")
	comesTo(t, made+"; K 5", []int{0, 3}, 0, "5", "-10")
	comesTo(t, made+"; K -1/2", []int{0, 3}, 1, "9", "-25/2")
	comesTo(t, "1 = 4; C 3; K 36893488147419103232", []int{0}, 0, "0", "36893488147419103232")
}

// P17.6: several rows, each with a multiplier of its own.
func TestAtOfEachRow(t *testing.T) {
	// With y1 the others are 3 - y1, 4 - y1, 1 + y1.
	const text = "1 1 0 0 = 3; 0 1 1 0 = 4; 0 0 1 1 = 5; C 1 2 1 5"
	rights(t, text, []int{0, 2, 3}, 0, "0, none")
	rights(t, text, []int{0, 2, 3}, 1, "0, 5")
	rights(t, text, []int{0, 2, 3}, 2, "4, none")
	for i, own := range []string{"3", "4", "5"} {
		comesTo(t, text, []int{0, 2, 3}, i, own, "12")
	}
	comesTo(t, text, []int{0, 2, 3}, 0, "10", "19")
	comesTo(t, text, []int{0, 2, 3}, 1, "0", "28")
	comesTo(t, text, []int{0, 2, 3}, 1, "5", "8")
	comesTo(t, text, []int{0, 2, 3}, 2, "4", "7")
	comesTo(t, text, []int{0, 2, 3}, 2, "14", "57")
}

// R5, R6: numbers told otherwise than in the one form, t among them, and lists too short and too long.
func TestRightOfOtherForms(t *testing.T) {
	s := api.Standard{
		A: [][]api.Rat{{odd("1"), odd("1"), num("1")}, {num("1"), odd("3"), noughts()[3], odd("1"), num("9")}, list("5 5 5 5")},
		B: []api.Rat{odd("4"), odd("6")},
		C: []api.Rat{odd("-3"), odd("-2"), noughts()[4], {}},
		K: odd("7"),
	}
	for i, want := range []string{"0, 6", "4, none", "ErrArg"} {
		if got := ends(span.Right(s, []int{0, 3}, i)); got != want {
			t.Errorf("%d: %s, want %s", i, got, want)
		}
	}
	if got := value(span.At(s, []int{0, 3}, 0, odd("5"))); got != "-8" {
		t.Error(got)
	}
	for _, nought := range noughts() {
		if got := value(span.At(s, []int{0, 3}, 0, nought)); got != "7" {
			t.Error(got)
		}
	}
	if got := value(span.At(s, []int{0, 3}, 0, odd("19/3"))); got != "ErrArg" {
		t.Error(got)
	}
}

// A row that A lacks is one of noughts.
func TestRightWithRowsThatALacks(t *testing.T) {
	s := standard("1 1 = 2; C 1 3")
	s.B = append(s.B, api.Rat{}, noughts()[2])
	for i, want := range []string{"0, none", "0, 0", "0, 0", "ErrArg"} {
		if got := ends(span.Right(s, []int{0}, i)); got != want {
			t.Errorf("%d: %s, want %s", i, got, want)
		}
	}
}

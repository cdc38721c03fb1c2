package span_test

import (
	"testing"

	"vertex/api"
	"vertex/span"
)

// The chapter's examples of Cost.
func TestCostExamples(t *testing.T) {
	costs(t, made, []int{0, 3}, 0, "none, -2")
	costs(t, made, []int{0, 3}, 1, "-3, none")
	costs(t, made, []int{0, 3}, 3, "-3, 1/2")
	costs(t, made, []int{0, 3}, 4, "ErrArg")
	costs(t, made, []int{1, 3}, 0, "ErrState")
	costs(t, made, []int{0}, 0, "ErrState")
	costs(t, made, []int{0, 3, 3, 9}, 0, "none, -2")
}

// P17.2, P17.3: of a column that isn't basic there is a lo alone: its cost less its reduced cost.
func TestCostOfColumnsThatAreNotBasic(t *testing.T) {
	costs(t, made, []int{0, 3}, 2, "-3, none")
	costs(t, "1 1 = 2; C 1 1", []int{0}, 1, "1, none")
	costs(t, "2 -3 = 2; C 1 5", []int{0}, 1, "-3/2, none")
	costs(t, "1 0 = 2; C 1 5", []int{0}, 1, "0, none")
	// It hangs on its row's columns alone, not on what it costs.
	costs(t, "2 -3 = 2; C 1 -3/2", []int{0}, 1, "-3/2, none")
	costs(t, "2 -3 = 2; C 1 1000000000000000000000000", []int{0}, 1, "-3/2, none")
}

// P17.2, P17.3: basic columns with both ends, with one of them, with none, and with ends that touch.
func TestCostOfBasicColumns(t *testing.T) {
	costs(t, "1 1 = 2; C 1 3", []int{0}, 0, "none, 3")
	costs(t, "1 -1 = 2; C 1 3", []int{0}, 0, "-3, none")
	costs(t, "2 -4 1 = 2; C 1 3 5", []int{0}, 0, "-3/2, 10")
	costs(t, "1 1 -1 = 2; C 1 1 -1", []int{0}, 0, "1, 1")
	costs(t, "1 1 -1 = 2; C 1 1 0", []int{0}, 0, "0, 1")
	costs(t, "1 0 = 2; C 5 0", []int{0}, 0, "none, none")
	costs(t, "1 = 2; C 5", []int{0}, 0, "none, none")
	costs(t, "1 0 = 2; 0 1 = 3; C 5 -7", []int{0, 1}, 1, "none, none")
}

// P17.3: of several columns the tightest one counts, wherever it stands.
func TestTightestCost(t *testing.T) {
	for _, text := range []string{"1 1 1 1 = 2; C 0 3 1 2", "1 1 1 1 = 2; C 0 1 2 3", "1 1 1 1 = 2; C 0 3 2 1"} {
		costs(t, text, []int{0}, 0, "none, 1")
	}
	for _, text := range []string{"1 -1 -1 -1 = 2; C 0 3 1 2", "1 -1 -1 -1 = 2; C 0 1 2 3", "1 -1 -1 -1 = 2; C 0 3 2 1"} {
		costs(t, text, []int{0}, 0, "-1, none")
	}
	costs(t, "1 2 4 -1 -3 = 2; C 0 1 1 1 1", []int{0}, 0, "-1/3, 1/4")
}

// P17.3: the numbers are those of the column's own row, which need not be the row of the same number.
func TestCostByTheColumnsOwnRow(t *testing.T) {
	const text = "0 1 5 = 2; 1 0 -1 = 3; C 1 1 6"
	// The column of cost 6 is 5 times that in row 0, less that in row 1: its reduced cost is 2.
	costs(t, text, []int{0, 1}, 0, "-1, none")
	costs(t, text, []int{0, 1}, 1, "none, 7/5")
	costs(t, text, []int{0, 1}, 2, "4, none")
}

// P17.2: turned rows and rows that are gone are nothing to a cost.
func TestCostWithRowsTurnedAndGone(t *testing.T) {
	const turned = "-1 -1 -1 0 = -4; 1 3 0 1 = 6; C -3 -2 0 0"
	for j, want := range []string{"none, -2", "-3, none", "-3, none", "-3, 1/2"} {
		costs(t, turned, []int{0, 3}, j, want)
	}
	const more = "1 1 1 0 = 4; 0 0 0 0 = 0; -2 -2 -2 0 = -8; 1 3 0 1 = 6; 2 4 1 1 = 10; C -3 -2 0 0"
	for j, want := range []string{"none, -2", "-3, none", "-3, none", "-3, 1/2"} {
		costs(t, more, []int{0, 3}, j, want)
	}
	costs(t, twins, []int{0}, 0, "none, 2")
	costs(t, twins, []int{0}, 1, "1, none")
}

// P17.2: standards with no rows: no column is basic, so none may cost less than 0.
func TestCostWithNoRows(t *testing.T) {
	costs(t, "C 1 0 7/2", nil, 0, "0, none")
	costs(t, "C 1 0 7/2", []int{}, 1, "0, none")
	costs(t, "C 1 0 7/2", []int{-1, 3}, 2, "0, none")
	costs(t, "C 1 -1", nil, 0, "ErrState")
}

// R5, R6: numbers told otherwise than in the one form, and lists too short and too long.
func TestCostOfOtherForms(t *testing.T) {
	s := api.Standard{
		A: [][]api.Rat{{odd("1"), odd("1"), num("1")}, {num("1"), odd("3"), noughts()[3], odd("1"), num("9")}, list("5 5 5 5")},
		B: []api.Rat{odd("4"), odd("6")},
		C: []api.Rat{odd("-3"), odd("-2"), noughts()[4], {}},
		K: odd("7"),
	}
	for j, want := range []string{"none, -2", "-3, none", "-3, none", "-3, 1/2", "ErrArg"} {
		if got := ends(span.Cost(s, []int{0, 3}, j)); got != want {
			t.Errorf("%d: %s, want %s", j, got, want)
		}
	}
	costs(t, "1 1 1 = 4; 1 3 0 1 = 6; C -3 -2 0 0", []int{0, 3}, 3, "-3, 1/2")
	costs(t, "1 36893488147419103232 = 1; C 1/3 36893488147419103232", []int{0}, 0, "none, 1")
}

// A row that A lacks is one of noughts.
func TestCostWithRowsThatALacks(t *testing.T) {
	s := standard("1 1 = 2; C 1 3")
	s.B = append(s.B, api.Rat{}, noughts()[2])
	if got := ends(span.Cost(s, []int{0}, 0)); got != "none, 3" {
		t.Error(got)
	}
	s.B[2] = num("1")
	if got := ends(span.Cost(s, []int{0}, 0)); got != "ErrState" {
		t.Error(got)
	}
}

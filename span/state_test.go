package span_test

import (
	"math"
	"testing"

	"vertex/api"
	"vertex/span"
)

// made is the chapter's standard, twins its two equal rows.
const (
	made  = "1 1 1 0 = 4; 1 3 0 1 = 6; C -3 -2 0 0"
	twins = "1 1 = 2; 1 1 = 2; C 1 2"
)

// P17.1: there is no such column, be the list a state or not: artificial ones are none.
func TestNoSuchColumn(t *testing.T) {
	for _, basis := range [][]int{{0, 3}, {1, 3}, {0}, nil} {
		for _, j := range []int{-1, -2, 4, 5, 6, math.MaxInt, math.MinInt} {
			costs(t, made, basis, j, "ErrArg")
		}
	}
	costs(t, "1 1 = 2; 1 1 = 3; C 1 1", []int{0}, 2, "ErrArg")
	costs(t, "= 0; C", nil, 0, "ErrArg")
	costs(t, "= 1; C", nil, 0, "ErrArg")
	// What A has beyond C doesn't count.
	costs(t, "1 1 1 = 2; C 1 1", []int{0}, 2, "ErrArg")
}

// P17.1: there is no such row, be the list a state or not; t isn't looked at.
func TestNoSuchRow(t *testing.T) {
	for _, basis := range [][]int{{0, 3}, {1, 3}, {0}, nil} {
		for _, i := range []int{-1, -2, 2, 3, 6, math.MaxInt, math.MinInt} {
			rights(t, made, basis, i, "ErrArg")
			comesTo(t, made, basis, i, "4", "ErrArg")
		}
	}
	rights(t, "C 1 2", nil, 0, "ErrArg")
	comesTo(t, "C 1 2", nil, 0, "0", "ErrArg")
	// What A has beyond B doesn't count.
	s := standard(made)
	s.A = append(s.A, list("1 1 1 1"))
	if got := ends(span.Right(s, []int{0, 3}, 2)); got != "ErrArg" {
		t.Error(got)
	}
}

// R1, P17.1: a standard with nothing in it has neither columns nor rows.
func TestEmptyStandard(t *testing.T) {
	for _, i := range []int{-1, 0, 1} {
		if got := ends(span.Cost(api.Standard{}, []int{0}, i)); got != "ErrArg" {
			t.Error(got)
		}
		if got := ends(span.Right(api.Standard{}, nil, i)); got != "ErrArg" {
			t.Error(got)
		}
		if got := value(span.At(api.Standard{}, nil, i, api.Rat{})); got != "ErrArg" {
			t.Error(got)
		}
	}
}

// noState asks that a list is none, by all columns and all rows; whatever t is.
func noState(t *testing.T, text string, basis ...int) {
	t.Helper()
	s := standard(text)
	for j := range s.C {
		costs(t, text, basis, j, "ErrState")
	}
	for i := range s.B {
		rights(t, text, basis, i, "ErrState")
		for _, right := range []string{"0", "4", "-1000000", "1000000"} {
			comesTo(t, text, basis, i, right, "ErrState")
		}
	}
}

// isState asks that a list is a state, by all columns and all rows.
func isState(t *testing.T, text string, basis ...int) {
	t.Helper()
	s := standard(text)
	for j := range s.C {
		if _, _, err := span.Cost(s, basis, j); err != nil {
			t.Errorf("Cost of %s, %v, %d: %v", text, basis, j, err)
		}
	}
	for i := range s.B {
		if _, _, err := span.Right(s, basis, i); err != nil {
			t.Errorf("Right of %s, %v, %d: %v", text, basis, i, err)
		}
		if _, err := span.At(s, basis, i, s.B[i]); err != nil {
			t.Errorf("At of %s, %v, %d: %v", text, basis, i, err)
		}
	}
}

// P17.1: Place answers false.
func TestRowsThatNothingMeets(t *testing.T) {
	for _, basis := range [][]int{nil, {0}, {1}, {0, 1}} {
		noState(t, "1 1 = 2; 1 1 = 3; C 1 1", basis...)
		noState(t, "1 1 = 2; 2 2 = -4; C 0 0", basis...)
		noState(t, "1 1 = 2; 0 0 = 1; C 0 0", basis...)
		noState(t, "1 1 = 2; 0 0 = -1/1000000; C 0 0", basis...)
	}
	noState(t, "= 1; C")
	noState(t, "= 0; = -1; C")
	isState(t, "= 0; = 0; C")
}

// P17.1: the board has other basic columns than the list: the list has too few, too many, or such as hang on one another.
func TestOtherBasicColumns(t *testing.T) {
	for _, basis := range [][]int{nil, {}, {0}, {3}, {0, 0, 0}, {0, 4, 5}, {9, -1}, {0, 3, 1}, {3, 0, 2}, {0, 1, 2, 3}} {
		noState(t, made, basis...)
	}
	isState(t, made, 0, 3)
	for _, basis := range [][]int{nil, {0, 1}, {1, 0}, {2}} {
		noState(t, twins, basis...)
	}
	isState(t, twins, 0)
	noState(t, "1 2 0 = 2; 2 4 1 = 5; C 0 0 0", 0, 1)
	noState(t, "1 2 0 = 2; 2 4 1 = 5; C 0 0 0", 0, 1, 2)
	isState(t, "1 2 0 = 2; 2 4 1 = 5; C 0 0 0", 0, 2)
	noState(t, "C 1 2", 0)
	noState(t, "C 1 2", 5, 1)
	isState(t, "C 1 2", 5, -1)
	noState(t, "0 0 = 0; C 1 2", 1)
	isState(t, "0 0 = 0; C 1 2")
}

// P17.1: a right side is below nought, if only by a hair, where all costs would do; nought itself will do.
func TestRightSideBelowNought(t *testing.T) {
	const free = "1 1 1 0 = 4; 1 3 0 1 = 6; C 0 0 0 0"
	noState(t, free, 1, 3)
	noState(t, free, 0, 2)
	for _, basis := range [][]int{{0, 1}, {0, 3}, {1, 2}, {2, 3}} {
		isState(t, free, basis...)
	}
	noState(t, "1 = -1/1000000000000000000000; C 0", 0)
	noState(t, "-1 = 1/1000000000000000000000; C 0", 0)
	isState(t, "1 = 0; C 0", 0)
	isState(t, "-1 = 0; C 0", 0)
	isState(t, "-1 = -1; C 0", 0)
}

// P17.1: a reduced cost is below nought, if only by a hair, where all right sides would do; nought itself will do.
func TestReducedCostBelowNought(t *testing.T) {
	for _, basis := range [][]int{{2, 3}, {1, 2}, {0, 1}} {
		noState(t, made, basis...)
	}
	const close = "1 1 = 2; C 1 999999999999999999999/1000000000000000000000"
	noState(t, close, 0)
	isState(t, close, 1)
	isState(t, "1 1 = 2; C 1 1", 0)
	isState(t, "1 1 = 2; C 1 1", 1)
	noState(t, "C 1 -1")
	isState(t, "C 1 0")
}

// P17.1, P17.6: of a list that is no state nothing is asked of t, and of one that is t comes last.
func TestStateAheadOfT(t *testing.T) {
	comesTo(t, made, []int{1, 3}, 0, "7", "ErrState")
	comesTo(t, made, []int{1, 3}, 2, "7", "ErrArg")
	comesTo(t, made, []int{0, 3}, 0, "7", "ErrArg")
}

// Words: a list is a state in whatever order, however often its columns stand there, and whatever else does.
func TestListsThatAreOneState(t *testing.T) {
	for _, basis := range [][]int{{0, 3}, {3, 0}, {0, 3, 3, 9}, {3, 0, 3, 9, -1}, {0, 0, 0, 3, 4, 5, 6}, {-7, 5, 3, 4, 0, 3, 0}, {math.MaxInt, 0, math.MinInt, 3}} {
		costs(t, made, basis, 0, "none, -2")
		costs(t, made, basis, 1, "-3, none")
		costs(t, made, basis, 2, "-3, none")
		costs(t, made, basis, 3, "-3, 1/2")
		rights(t, made, basis, 0, "0, 6")
		rights(t, made, basis, 1, "4, none")
		comesTo(t, made, basis, 0, "5", "-15")
		comesTo(t, made, basis, 1, "9", "-12")
	}
}

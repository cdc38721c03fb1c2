package shape_test

import (
	"math"
	"testing"

	"vertex/api"
	"vertex/shape"
)

// many is a problem with variables of all kinds and rows of all kinds.
func many() api.Problem {
	return problem("min st a + b >= 1 c >= - inf 2 <= d + e <= 4 b = 3 e <= - 7 a >= - inf 1 <= c <= 0 bounds a >= 2 -inf <= b <= 5 c free 1 <= d <= 3 7 <= e <= 6")
}

// The chapter's examples of the way back.
func TestExamplesOfTheWayBack(t *testing.T) {
	s := shape.Make(second())
	backTo(t, "Point", s.Point, "2 2 2", "3")
	backTo(t, "Ray", s.Ray, "1 1 1", "-1")
	backTo(t, "Mult", s.Mult, "5 7", "5")
	columnsAre(t, s, 0, 0, -1)
	columnsAre(t, s, 1, -1, -1)
	third := shape.Make(problem("min y st bounds y free 0 <= z <= 2"))
	backTo(t, "Point", third.Point, "0 4 1", "-4 1")
	columnsAre(t, third, 0, 0, 1)
}

// P10.5: one column, or two of a free variable; none of a place at which there is no variable.
func TestColumns(t *testing.T) {
	s := shape.Make(many())
	for j, want := range [][2]int{{0, -1}, {1, -1}, {2, 3}, {4, -1}, {5, -1}} {
		columnsAre(t, s, j, want[0], want[1])
	}
	for _, j := range []int{-1, -2, 5, 6, 11, math.MaxInt, math.MinInt} {
		columnsAre(t, s, j, -1, -1)
	}
	for _, j := range []int{-1, 0, 1} {
		columnsAre(t, shape.Make(api.Problem{Rows: []api.Row{{Lo: has("1")}}}), j, -1, -1)
	}
}

// P10.6: a point by the table, whatever the numbers are; slacks don't count, missing numbers are 0, further ones don't count.
func TestPoint(t *testing.T) {
	s := shape.Make(many())
	backTo(t, "Point", s.Point, "1 2 3 5 7 11", "3 3 -2 8 18")
	backTo(t, "Point", s.Point, "-1 -2 -3 -5 -1/2 1/3", "1 7 2 1/2 22/3")
	backTo(t, "Point", s.Point, "1 2 3 5 7 11 13 17 19 23 29 31 37 41 43 47 53 59", "3 3 -2 8 18")
	for of, want := range map[string]string{"": "2 5 0 1 7", "1": "3 5 0 1 7", "1 2": "3 3 0 1 7", "1 2 3": "3 3 3 1 7", "1 2 0 5": "3 3 -5 1 7", "1 2 3 5 7": "3 3 -2 8 7"} {
		backTo(t, "Point", s.Point, of, want)
	}
	backTo(t, "Point", shape.Make(api.Problem{}).Point, "", "")
	backTo(t, "Point", shape.Make(api.Problem{}).Point, "1 2", "")
}

// P10.6: a direction by the table, without the constants.
func TestRay(t *testing.T) {
	s := shape.Make(many())
	backTo(t, "Ray", s.Ray, "1 2 3 5 7 11", "1 -2 -2 7 11")
	backTo(t, "Ray", s.Ray, "-1 -2 -3 -5 -1/2 1/3", "-1 2 2 -1/2 1/3")
	backTo(t, "Ray", s.Ray, "1 2 3 5 7 11 13 17 19 23 29 31 37 41 43 47 53 59", "1 -2 -2 7 11")
	for of, want := range map[string]string{"": "0 0 0 0 0", "1": "1 0 0 0 0", "1 2": "1 -2 0 0 0", "1 2 3": "1 -2 3 0 0", "1 2 0 5": "1 -2 -5 0 0", "1 2 3 5 7": "1 -2 -2 7 0"} {
		backTo(t, "Ray", s.Ray, of, want)
	}
	backTo(t, "Ray", shape.Make(api.Problem{}).Ray, "", "")
	backTo(t, "Ray", shape.Make(api.Problem{}).Ray, "1 2", "")
}

// P10.7: the number of the first row that a row brought, as it is in either sense; 0 of a row that brought none. Rows of variables' bounds don't come back.
func TestMult(t *testing.T) {
	for _, sense := range []bool{false, true} {
		p := many()
		p.Max = sense
		s := shape.Make(p)
		// The standard's rows: a + b; d + e and its width; b; e; c and its width; then d's width and e's.
		backTo(t, "Mult", s.Mult, "1 2 3 5 7 11 13 17 19", "1 0 2 5 7 0 11")
		backTo(t, "Mult", s.Mult, "-1 -2 3 -5/2 7 -11 13 17 19", "-1 0 -2 -5/2 7 0 -11")
		backTo(t, "Mult", s.Mult, "1 2 3 5 7 11 13 17 19 23 29 31", "1 0 2 5 7 0 11")
		for of, want := range map[string]string{"": "0 0 0 0 0 0 0", "1": "1 0 0 0 0 0 0", "1 2": "1 0 2 0 0 0 0", "1 2 3": "1 0 2 0 0 0 0", "1 2 3 5": "1 0 2 5 0 0 0", "1 2 3 5 7": "1 0 2 5 7 0 0", "1 2 3 5 7 11": "1 0 2 5 7 0 11"} {
			backTo(t, "Mult", s.Mult, of, want)
		}
	}
	backTo(t, "Mult", shape.Make(problem("min x st bounds 0 <= x <= 1")).Mult, "1 2", "")
	backTo(t, "Mult", shape.Make(problem("min x st x >= - inf bounds 0 <= x <= 1")).Mult, "1 2", "0")
	backTo(t, "Mult", shape.Make(api.Problem{}).Mult, "1", "")
}

// P10.6, P10.7: numbers in other forms count for what they are, and are answered in the one form; nil lists are empty ones.
func TestListsInOtherForms(t *testing.T) {
	s := shape.Make(many())
	of := []api.Rat{odd("1/2"), odd("-3"), odd("4"), odd("2/3"), odd("9"), odd("-1/6")}
	for _, x := range []struct {
		what string
		back func([]api.Rat) []api.Rat
		want string
	}{{"Point", s.Point, "5/2 8 10/3 10 41/6"}, {"Ray", s.Ray, "1/2 3 10/3 9 -1/6"}, {"Mult", s.Mult, "1/2 0 -3 2/3 9 0 -1/6"}} {
		if got := numbersOf(x.back(of)); got != x.want {
			t.Errorf("%s: %s, want %s", x.what, got, x.want)
		}
		none := numbersOf(x.back(nil))
		for _, nought := range noughts() {
			if got := numbersOf(x.back([]api.Rat{nought, nought, nought, nought, nought, nought})); got != none {
				t.Errorf("%s of noughts: %s, want %s", x.what, got, none)
			}
		}
		if got := numbersOf(x.back([]api.Rat{})); got != none {
			t.Errorf("%s of an empty list: %s, want %s", x.what, got, none)
		}
	}
}

package climb_test

import (
	"testing"

	"vertex/api"
	"vertex/climb"
)

// The chapter's examples, whole.
func TestExamples(t *testing.T) {
	runs(t, "1 1 1 0 = 4; 1 3 0 1 = 6; C -3 -5 0 0", "optimal -14, point 3 1 0 0, mult -2 -1, basis 0 1, pivots 2 0 0, trail (4 5) (0 5) (0 1)")
	runs(t, "1 = -2; C 1", "infeasible, mult -1, pivots 0 0 0, trail (1)")
	runs(t, "1 -1 = 0; C -1 0", "unbounded, point 0 0, ray 1 1, basis 0, pivots 1 0 0, trail (2) (0)")
	runs(t, "1 1 = 2; 2 2 = 4; C 1 0; K 5", "optimal 5, point 0 2, mult 0 0, basis 1, pivots 1 0 1, trail (2 3) (0 3) (1)")
	runs(t, "C 0 1; K 3", "optimal 3, point 0 0, pivots 0 0 0, trail ()")
	runs(t, "C 1 -1", "unbounded, point 0 0, ray 0 1, pivots 0 0 0, trail ()")
	runs(t, "0 0 = 0; C 2 0", "optimal 0, point 0 0, mult 0, pivots 0 0 0, trail (2)")
}

// P12.1, R6: standards without rows, without columns, and without either.
func TestNoRowsOrNoColumns(t *testing.T) {
	runs(t, "C", "optimal 0, pivots 0 0 0, trail ()")
	runs(t, "K -7/2", "optimal -7/2, pivots 0 0 0, trail ()")
	runs(t, "C 5; K 1", "optimal 1, point 0, pivots 0 0 0, trail ()")
	runs(t, "C 0 -1/2 -1", "unbounded, point 0 0 0, ray 0 1 0, pivots 0 0 0, trail ()")
	runs(t, "= 0; = 0; K 2", "optimal 2, mult 0 0, pivots 0 0 0, trail (0 1)")
	runs(t, "= 0; = 3; K 2", "infeasible, mult 1 1, pivots 0 0 0, trail (0 1)")
	runs(t, "= 0; = -3; = 1", "infeasible, mult 1 -1 1, pivots 0 0 0, trail (0 1 2)")
	if got := told(climb.Run(api.Standard{})); got != "optimal 0, pivots 0 0 0, trail ()" {
		t.Errorf("Run of the zero standard: %s", got)
	}
}

// R6: rows too short, too long, missing and too many; C alone tells how many columns there are, B how many rows.
func TestListsOfOtherLengths(t *testing.T) {
	want := "optimal -14, point 3 1 0 0, mult -2 -1, basis 0 1, pivots 2 0 0, trail (4 5) (0 5) (0 1)"
	runs(t, "1 1 1 = 4; 1 3 0 1 9 9 = 6; C -3 -5 0 0", want)
	s := standard("1 1 1 = 4; 1 3 0 1 9 9 = 6; C -3 -5 0 0")
	s.A = append(s.A, list("1 2 3"), nil, list("7 7 7 7 7"))
	if got := told(climb.Run(s)); got != want {
		t.Errorf("with more rows than right sides: %s, want %s", got, want)
	}
	s.A = s.A[:1]
	if got, want := told(climb.Run(s)), "infeasible, mult 0 1, pivots 1 0 0, trail (4 5) (0 5)"; got != want {
		t.Errorf("with a row missing: %s, want %s", got, want)
	}
	s.B = s.B[:1]
	if got, want := told(climb.Run(s)), "optimal -20, point 0 4 0 0, mult -5, basis 1, pivots 1 0 1, trail (4) (0) (1)"; got != want {
		t.Errorf("with one row: %s, want %s", got, want)
	}
	s.C = s.C[:1]
	if got, want := told(climb.Run(s)), "optimal -12, point 4, mult -3, basis 0, pivots 1 0 0, trail (1) (0)"; got != want {
		t.Errorf("with one column: %s, want %s", got, want)
	}
}

// P12.10: numbers in other forms than the one; answers are in the one form.
func TestFormsOfNumbers(t *testing.T) {
	s := api.Standard{
		A: [][]api.Rat{{odd("1"), odd("1"), odd("1"), noughts()[3]}, {odd("1"), odd("3"), noughts()[4], odd("1")}},
		B: []api.Rat{odd("4"), odd("6")},
		C: []api.Rat{odd("-3"), odd("-5"), noughts()[0], noughts()[5]},
		K: odd("-1/2"),
	}
	if got, want := told(climb.Run(s)), "optimal -29/2, point 3 1 0 0, mult -2 -1, basis 0 1, pivots 2 0 0, trail (4 5) (0 5) (0 1)"; got != want {
		t.Errorf("%s, want %s", got, want)
	}
	for _, nought := range noughts() {
		s := api.Standard{A: [][]api.Rat{{nought, odd("-1"), nought}}, B: []api.Rat{nought}, C: []api.Rat{nought, nought, odd("2/3")}, K: nought}
		if got, want := told(climb.Run(s)), "optimal 0, point 0 0 0, mult 0, basis 1, pivots 0 1 0, trail (3) (1)"; got != want {
			t.Errorf("%s, want %s", got, want)
		}
	}
}

// P12.2: in phase 1 the least column of those with a reduced cost below nought enters, whatever the others are, and whatever the costs of the standard.
func TestPhaseOne(t *testing.T) {
	runs(t, "0 1 5 = 1; C 0 9 0", "optimal 0, point 0 0 1/5, mult 0, basis 2, pivots 1 0 1, trail (3) (1) (2)")
	runs(t, "-1 2 1 = 2; 1 1 1 = 3; C 1 1 0", "optimal 1/2, point 1/2 0 5/2, mult -1/2 1/2, basis 0 2, pivots 2 0 1, trail (3 4) (1 4) (0 1) (0 2)")
	runs(t, "1 1 0 = 3; 1 0 1 = 1; C 0 0 0", "optimal 0, point 1 2 0, mult 0 0, basis 0 1, pivots 2 0 0, trail (3 4) (0 3) (0 1)")
}

// P12.2: rows with right sides below nought are turned; so are their multipliers.
func TestTurnedRows(t *testing.T) {
	runs(t, "-1 -1 -1 0 = -4; 1 3 0 1 = 6; C -3 -5 0 0", "optimal -14, point 3 1 0 0, mult 2 -1, basis 0 1, pivots 2 0 0, trail (4 5) (0 5) (0 1)")
	runs(t, "-2 = -6; C 1", "optimal 3, point 3, mult -1/2, basis 0, pivots 1 0 0, trail (1) (0)")
	runs(t, "1 1 = 2; -1 -1 = -3; C 0 0", "infeasible, mult -1 -1, pivots 1 0 0, trail (2 3) (0 3)")
	runs(t, "1 2 = -1; -1 3 = 5; C 0 0", "infeasible, mult -1 2/3, pivots 1 0 0, trail (2 3) (1 2)")
	runs(t, "1 -1 = -1; C 0 -1", "unbounded, point 0 1, ray 1 1, basis 1, pivots 1 0 0, trail (2) (1)")
}

// P12.2: an infeasible standard, told behind the pivots of phase 1; nothing is driven out then, and its costs don't count.
func TestInfeasible(t *testing.T) {
	runs(t, "1 1 = 1; 1 1 = 3; -1 0 = 0; C -1 -1; K 4", "infeasible, mult -1 1 1, pivots 2 0 0, trail (2 3 4) (0 3 4) (1 3 4)")
	runs(t, "1 0 = 1; 0 0 = 2; C 0 0", "infeasible, mult 0 1, pivots 1 0 0, trail (2 3) (0 3)")
	runs(t, "1 = 1/3; 3 = 1; 6 = 2000000000000000000001/1000000000000000000000; C -1", "infeasible, mult -9 1 1, pivots 1 0 0, trail (1 2 3) (0 2 3)")
}

// P12.2: of rows with the same ratio the one with the least basic column is left.
func TestTies(t *testing.T) {
	runs(t, "1 1 = 2; 1 2 = 2; 1 3 = 2; C 0 0", "optimal 0, point 2 0, mult 0 0 0, basis 0 1, pivots 2 0 0, trail (2 3 4) (0 3 4) (0 1 4)")
	runs(t, "0 1 1 = 1; 1 0 2 = 2; C 0 0 -1", "optimal -1, point 0 0 1, mult 0 -1/2, basis 1 2, pivots 2 0 1, trail (3 4) (0 3) (0 1) (1 2)")
}

// P12.3: a row that phase 1 has left to its artificial column is pivoted in at the least column whose number isn't nought, below nought or above.
func TestDrivingOut(t *testing.T) {
	runs(t, "-1 = 0; C 1", "optimal 0, point 0, mult -1, basis 0, pivots 0 1 0, trail (1) (0)")
	runs(t, "0 -2 -3 = 0; C 0 0 0", "optimal 0, point 0 0 0, mult 0, basis 1, pivots 0 1 0, trail (3) (1)")
	runs(t, "-1 0 = 0; -1 -1 = 0; C 0 0", "optimal 0, point 0 0, mult 0 0, basis 0 1, pivots 0 2 0, trail (2 3) (0 3) (0 1)")
	runs(t, "1 0 = 2; -1 -1 = -2; C 0 0", "optimal 0, point 2 0, mult 0 0, basis 0 1, pivots 2 0 0, trail (2 3) (0 3) (0 1)")
	runs(t, "1 0 = 2; 1 -1 = 2; C 0 1", "optimal 0, point 2 0, mult 1 -1, basis 0 1, pivots 1 1 0, trail (2 3) (0 3) (0 1)")
}

// P12.3: a row without such a column is dropped; the lists behind it are without its column, those ahead of it aren't.
func TestDropping(t *testing.T) {
	runs(t, "1 1 = 2; 2 2 = 4; C 1; K 5", "optimal 7, point 2, mult 1 0, basis 0, pivots 1 0 0, trail (1 2) (0 2)")
	runs(t, "-1 -1 0 = 0; -1 -1 0 = 0; 0 0 -1 = 0; C 0 0 0", "optimal 0, point 0 0 0, mult 0 0 0, basis 0 2, pivots 0 2 0, trail (3 4 5) (0 4 5) (0 2)")
	runs(t, "0 = 0; -1 = 0; C 1", "optimal 0, point 0, mult 0 -1, basis 0, pivots 0 1 0, trail (1 2) (0)")
	runs(t, "1 -1 = 0; 2 -2 = 0; -1 1 = 0; C 1 0", "optimal 0, point 0 0, mult 1 0 0, basis 0, pivots 1 0 0, trail (2 3 4) (0 3 4)")
}

// P12.4: phase 2 goes on where driving out has ended, and its bases follow.
func TestPhaseTwo(t *testing.T) {
	runs(t, "1 1 1 0 = 4; 1 3 0 1 = 6; C 0 -1 0 0", "optimal -2, point 0 2 2 0, mult 0 -1/3, basis 1 2, pivots 2 0 1, trail (4 5) (0 5) (0 1) (1 2)")
	runs(t, "-1 1 0 = 0; 0 0 -1 = 0; C 0 -1 1", "unbounded, point 0 0 0, ray 1 1 0, basis 1 2, pivots 1 1 0, trail (3 4) (1 4) (1 2)")
	runs(t, "1 -1 -2 = 3; C -1 0 1", "unbounded, point 3 0 0, ray 1 1 0, basis 0, pivots 1 0 0, trail (3) (0)")
}

// P12.5: a ray has 1 at the column that should enter, and 0 less its numbers at the basic ones.
func TestRays(t *testing.T) {
	runs(t, "1 0 -2 -1/2 = 1; 0 1 0 -3 = 2; C 1 1 0 -5; K 8", "unbounded, point 1 2 0 0, ray 1/2 3 0 1, basis 0 1, pivots 2 0 0, trail (4 5) (0 5) (0 1)")
	runs(t, "1 -1 = 0; 2 -2 = 0; C -2 1", "unbounded, point 0 0, ray 1 1, basis 0, pivots 1 0 0, trail (2 3) (0 3)")
}

// R5: numbers greater than a word, and great denominators, are reckoned with exactly.
func TestGreatNumbers(t *testing.T) {
	runs(t, "18446744073709551616 1 = 340282366920938463463374607431768211456; C 1 1", "optimal 18446744073709551616, point 18446744073709551616 0, mult 1/18446744073709551616, basis 0, pivots 1 0 0, trail (2) (0)")
	runs(t, "1/18446744073709551616 -1/18446744073709551615 = 0; C -18446744073709551616 18446744073709551615", "unbounded, point 0 0, ray 18446744073709551616/18446744073709551615 1, basis 0, pivots 1 0 0, trail (2) (0)")
}

package warm_test

import (
	"testing"

	"vertex/api"
	"vertex/climb"
	"vertex/warm"
)

// The chapter's examples, whole.
func TestExamples(t *testing.T) {
	places(t, made, []int{1, 0}, []int{1, 0}, "1 3", true)
	const best = "optimal -14, point 3 1 0 0, mult -2 -1, basis 0 1, pivots 2 0 0"
	runs(t, made, []int{0, 1}, best)
	runs(t, made, []int{2, 3}, "optimal -14, point 3 1 0 0, mult -2 -1, basis 0 1, pivots 2 0 2")
	runs(t, made, nil, best)
	runs(t, made, []int{9, -1, 1, 1}, best)
	runs(t, other, []int{0, 1}, "optimal -20, point 0 4 0 3, mult -5 0, basis 1 3, pivots 2 1 0")
	runs(t, "1 = -2; C 1", []int{0}, "infeasible, mult -1, pivots 1 0 0")
	runsAsClimb(t, "1 1 = 2; 1 1 = 3; C 0 0", []int{0})
	runs(t, "1 1 = 2; 1 1 = 3; C 0 0", []int{0}, "infeasible, mult -1 1, pivots 1 0 0, trail (2 3) (0 3)")
}

// P16.4, 1: Place answers false: all of climb.Run's answer, also where no right side is below nought, and where no cost is.
func TestNothingMeetsTheRows(t *testing.T) {
	runsAsClimb(t, "1 1 = 3; 1 1 = 2; C 0 0", []int{1})
	runsAsClimb(t, "0 = 1; 1 = -2; C 1", []int{0})
	runs(t, "0 = 1; 1 = -2; C 1", []int{0}, "infeasible, mult 1 -1, pivots 0 0 0, trail (1 2)")
	runs(t, "= 5; K 1", nil, "infeasible, mult 1, pivots 0 0 0, trail (0)")
}

// P16.4, 2: no right side is below nought: up from there, by Bland's rule, to each of the two verdicts; nought is allowed.
func TestUpFromThere(t *testing.T) {
	runs(t, made, []int{2, 1}, "optimal -14, point 3 1 0 0, mult -2 -1, basis 0 1, pivots 2 0 1")
	runs(t, made, []int{1, 2}, "optimal -14, point 3 1 0 0, mult -2 -1, basis 0 1, pivots 2 0 1")
	runs(t, made, []int{3, 0}, "optimal -14, point 3 1 0 0, mult -2 -1, basis 0 1, pivots 2 0 1")
	runs(t, "1 -1 = 0; C -1 0; K 4", []int{1}, "unbounded, point 0 0, ray 1 1, basis 1, pivots 1 0 0")
	runs(t, "1 -1 0 = 0; 0 0 1 = 2; C -1 0 3", nil, "unbounded, point 0 0 2, ray 1 1 0, basis 0 2, pivots 2 0 0")
	runs(t, "1 1 = 2; 2 2 = 4; C 1 0; K 5", []int{0}, "optimal 5, point 0 2, mult 0 0, basis 1, pivots 1 0 1")
	runs(t, "1 1 = 2; 2 2 = 4; C 1 0; K 5", []int{1}, "optimal 5, point 0 2, mult 0 0, basis 1, pivots 1 0 0")
	runs(t, "-1 = 0; C 1", nil, "optimal 0, point 0, mult -1, basis 0, pivots 1 0 0")
}

// P16.4: the second case applies ahead of the third one, the third one ahead of the fourth.
func TestFirstCaseThatApplies(t *testing.T) {
	// No right side is below nought, and no reduced cost: up, with nothing to do.
	runs(t, "1 1 = 2; C 1 1", []int{1}, "optimal 2, point 0 2, mult 1, basis 1, pivots 1 0 0")
	// One right side is below nought; a reduced cost that is nought is allowed.
	runs(t, "1 -1 0 = -1; 0 1 1 = 3; C 0 0 0", []int{0, 2}, "optimal 0, point 0 1 2, mult 0 0, basis 1 2, pivots 2 1 0")
	// A right side and a reduced cost below nought: from the beginning.
	runsAsClimb(t, "1 -1 0 = -1; 0 1 1 = 3; C 0 -1 0", []int{0, 2})
	runs(t, "1 -1 0 = -1; 0 1 1 = 3; C 0 -1 0", []int{0, 2}, "optimal -3, point 2 3 0, mult 0 -1, basis 0 1, pivots 2 0 0, trail (3 4) (1 4) (0 1)")
}

// P16.4, 4: the costs are told as reduced ones: a column that costs nothing may have one below nought, and one that costs less than nought may have none.
func TestReducedCosts(t *testing.T) {
	runsAsClimb(t, "1 2 = -4; C 1 1", []int{0})
	runs(t, "1 2 = -4; C 1 2", []int{0}, "infeasible, mult -1, pivots 1 0 0")
	runs(t, "1 2 = -4; C -1 -2", []int{0}, "infeasible, mult -1, pivots 1 0 0")
	runs(t, "-1 1 = 3; C -1 2", []int{0}, "optimal 6, point 0 3, mult 2, basis 1, pivots 1 1 0")
}

// P16.4: columns that aren't the standard's don't count among the reduced costs.
func TestArtificialColumnsDontCount(t *testing.T) {
	// Reduced costs of the artificial columns are below nought here, as the multipliers are above it.
	runs(t, "1 1 = 2; 1 -1 = 4; C 3 1", []int{0, 1}, "infeasible, mult -1/2 1/2, pivots 2 0 0")
	runs(t, "-1 1 = 3; C -1 3", []int{0}, "optimal 9, point 0 3, mult 3, basis 1, pivots 1 1 0")
}

// R6: standards without rows, without columns, without either; rows of noughts.
func TestRunOfBareStandards(t *testing.T) {
	runs(t, "C", nil, "optimal 0, pivots 0 0 0")
	runs(t, "C; K 7/2", []int{0, 1, -1}, "optimal 7/2, pivots 0 0 0")
	runs(t, "C 0 1; K 3", []int{1}, "optimal 3, point 0 0, pivots 0 0 0")
	runs(t, "C 1 -1", []int{0}, "unbounded, point 0 0, ray 0 1, pivots 0 0 0")
	runs(t, "= 0; = 0; K 2", []int{0}, "optimal 2, mult 0 0, pivots 0 0 0")
	runs(t, "0 0 = 0; C 2 0", []int{1, 0}, "optimal 0, point 0 0, mult 0, pivots 0 0 0")
	runs(t, "0 0 = 0; C -2 0", []int{1, 0}, "unbounded, point 0 0, ray 1 0, pivots 0 0 0")
	runs(t, "0 0 = 0; 1 2 = -3; 0 0 = 0; C 1 2", nil, "infeasible, mult 0 -1 0, pivots 1 0 0")
	runsAsClimb(t, "0 0 = 1; C 2 0", []int{0, 1})
	if got := told(warm.Run(api.Standard{}, nil)); got != "optimal 0, pivots 0 0 0" {
		t.Errorf("Run of the zero standard: %s", got)
	}
}

// R6: rows too short, too long, missing and too many; C alone tells how many columns there are, B how many rows.
func TestListsOfOtherLengths(t *testing.T) {
	want := "optimal -20, point 0 4 0 3, mult -5 0, basis 1 3, pivots 2 1 0"
	runs(t, "1 1 1 = 4; 1 3 0 1 9 9 = 15; C -3 -5 0 0", []int{0, 1}, want)
	s := standard("1 1 1 = 4; 1 3 0 1 9 9 = 15; C -3 -5 0 0")
	s.A = append(s.A, list("1 2 3"), nil, list("7 7 7 7 7"))
	if got := told(warm.Run(s, []int{0, 1})); got != want {
		t.Errorf("with more rows than right sides: %s, want %s", got, want)
	}
	s.A = s.A[:1]
	if got, want := told(warm.Run(s, []int{0, 1})), told(climb.Run(s)); got != want {
		t.Errorf("with a row missing: %s, want %s", got, want)
	}
	s.B = s.B[:1]
	if got, want := told(warm.Run(s, []int{2, 3})), "optimal -20, point 0 4 0 0, mult -5, basis 1, pivots 1 0 2"; got != want {
		t.Errorf("with one row: %s, want %s", got, want)
	}
	s.C = s.C[:1]
	if got, want := told(warm.Run(s, []int{2, 1})), "optimal -12, point 4, mult -3, basis 0, pivots 1 0 0"; got != want {
		t.Errorf("with one column: %s, want %s", got, want)
	}
}

// R5: numbers in other forms than the one; answers are in the one form.
func TestFormsOfNumbers(t *testing.T) {
	s := api.Standard{
		A: [][]api.Rat{{odd("1"), odd("1"), odd("1"), noughts()[3]}, {odd("1"), odd("3"), noughts()[4], odd("1")}},
		B: []api.Rat{odd("4"), odd("15")},
		C: []api.Rat{odd("-3"), odd("-5"), noughts()[0], noughts()[5]},
		K: odd("-1/2"),
	}
	if got, want := told(warm.Run(s, []int{0, 1})), "optimal -41/2, point 0 4 0 3, mult -5 0, basis 1 3, pivots 2 1 0"; got != want {
		t.Errorf("%s, want %s", got, want)
	}
	s = api.Standard{A: [][]api.Rat{{odd("2"), noughts()[3]}}, B: []api.Rat{odd("-3")}, C: []api.Rat{odd("1/7"), noughts()[4]}, K: odd("5")}
	if got, want := told(warm.Run(s, nil)), "infeasible, mult -1/2, pivots 1 0 0"; got != want {
		t.Errorf("%s, want %s", got, want)
	}
	for _, nought := range noughts() {
		s := api.Standard{A: [][]api.Rat{{nought, odd("-1"), nought}, {nought, nought}}, B: []api.Rat{nought, nought}, C: []api.Rat{nought, nought, odd("2/3")}, K: nought}
		if got, want := told(warm.Run(s, []int{0, 2})), "optimal 0, point 0 0 0, mult 0 0, basis 1, pivots 1 0 0"; got != want {
			t.Errorf("%s, want %s", got, want)
		}
	}
}

// Numbers greater than a word, and great denominators, are reckoned with exactly.
func TestGreatNumbers(t *testing.T) {
	runs(t, "-1 18446744073709551616 = 1; C 0 1", []int{0}, "optimal 1/18446744073709551616, point 0 1/18446744073709551616, mult 1/18446744073709551616, basis 1, pivots 1 1 0")
	runs(t, "1 1/340282366920938463463374607431768211456 = -1/18446744073709551616; C 1 1/340282366920938463463374607431768211456", []int{1}, "infeasible, mult -340282366920938463463374607431768211456, pivots 1 0 0")
}

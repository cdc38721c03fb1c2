package warm_test

import (
	"math/big"
	"slices"
	"testing"

	"vertex/api"
	"vertex/board"
	"vertex/warm"
)

// P16.5: of several rows with right sides below nought the one with the least basic column, whichever row that is, and whatever is furthest below nought.
func TestWhichRow(t *testing.T) {
	// Row 1 has column 2, row 0 column 3: row 1 goes, and then no right side is below nought any more.
	runs(t, "-1 -1 0 1 = -2; -1 -2 1 0 = -3; C 1 2 0 0", []int{2, 3}, "optimal 3, point 3 0 0 1, mult 0 -1, basis 0 3, pivots 2 1 0")
	// The same, with row 0 further below nought: its turn comes afterwards.
	runs(t, "-1 -1 0 1 = -5; -1 -2 1 0 = -3; C 1 2 0 0", []int{2, 3}, "optimal 5, point 5 0 2 0, mult -1 0, basis 0 2, pivots 2 2 0")
	// The rows told the other way round have the same basic columns.
	runs(t, "-1 -2 1 0 = -3; -1 -1 0 1 = -5; C 1 2 0 0", []int{2, 3}, "optimal 5, point 5 0 2 0, mult 0 -1, basis 0 2, pivots 2 2 0")
	runs(t, "-1 -2 0 1 = -3; -1 -1 1 0 = -5; C 1 2 0 0", []int{2, 3}, "optimal 5, point 5 0 0 2, mult 0 -1, basis 0 3, pivots 2 1 0")
}

// P16.5: of several columns that with the least ratio of its reduced cost, of several of these the least column; those that aren't below nought in the row don't count.
func TestWhichColumn(t *testing.T) {
	runs(t, "1 -1 -2 -3 1 = -6; C 0 3 4 9 0", []int{4}, "optimal 12, point 0 0 3 0 0, mult -2, basis 2, pivots 1 1 0")
	runs(t, "1 -1 -2 -3 1 = -6; C 0 2 4 6 0", []int{4}, "optimal 12, point 0 6 0 0 0, mult -2, basis 1, pivots 1 1 0")
	runs(t, "1 -1 -2 -3 1 = -6; C 0 5 4 6 0", []int{4}, "optimal 12, point 0 0 3 0 0, mult -2, basis 2, pivots 1 1 0")
	runs(t, "1 -1 -2 -3 1 = -6; C 0 0 0 0 0", []int{4}, "optimal 0, point 0 6 0 0 0, mult 0, basis 1, pivots 1 1 0")
	runs(t, "0 0 -2 1 = -1; C 0 0 5 0", []int{3}, "optimal 5/2, point 0 0 1/2 0, mult -5/2, basis 2, pivots 1 1 0")
}

// P16.5: ratios are of reduced costs, not of costs.
func TestRatiosOfReducedCosts(t *testing.T) {
	// Column 2, which is basic, costs 10: of columns 0 and 1 the reduced costs are 1 + 10 and 2 + 10.
	runs(t, "-1 -1 1 = -3; C 1 2 10", []int{2}, "optimal 3, point 3 0 0, mult -1, basis 0, pivots 1 1 0")
	runs(t, "-1 -2 1 = -3; C -9 -18 10", []int{2}, "optimal -27, point 3 0 0, mult 9, basis 0, pivots 1 1 0")
	runs(t, "-1 -2 1 = -3; C -8 -18 10", []int{2}, "optimal -27, point 0 3/2 0, mult 9, basis 1, pivots 1 1 0")
}

// P16.5: several rounds, in which a row may come to be below nought only later.
func TestSeveralRounds(t *testing.T) {
	runs(t, "-1 -1 1 0 0 = -2; 2 1 0 1 0 = 1; -1 1 0 0 1 = 3; C 1 3 0 0 0", []int{2, 3, 4}, "infeasible, mult -1 -1 0, pivots 3 2 0")
	runs(t, "-1 -1 1 0 0 = -2; 2 1 0 1 0 = 3; -1 1 0 0 1 = 3; C 1 3 0 0 0", []int{2, 3, 4}, "optimal 4, point 1 1 0 0 3, mult -5 -2 0, basis 0 1 4, pivots 3 2 0")
}

// P16.5: no column below nought in the row: infeasible, by multipliers that its artificial columns tell, turned with their rows; nothing else is told.
func TestInfeasible(t *testing.T) {
	runs(t, "1 = -2; C 1; K 9", []int{0}, "infeasible, mult -1, pivots 1 0 0")
	runs(t, "-1 = 2; C 1; K 9", []int{0}, "infeasible, mult 1, pivots 1 0 0")
	runs(t, "1 1 1 0 = 4; 1 1 0 -1 = 6; C 0 0 0 0", []int{2, 3}, "infeasible, mult -1 1, pivots 2 1 0")
	runs(t, "-1 -1 -1 0 = -4; 1 1 0 -1 = 6; C 0 0 0 0", []int{2, 3}, "infeasible, mult 1 1, pivots 2 1 0")
	runs(t, "1 1 1 0 = 4; -1 -1 0 1 = -6; C 0 0 0 0", []int{2, 3}, "infeasible, mult -1 -1, pivots 2 1 0")
	runs(t, "-2 -2 -2 0 = -8; -1 -1 0 1 = -6; C 0 0 0 0", []int{2, 3}, "infeasible, mult 1/2 -1, pivots 2 1 0")
	// A row that was dropped has its multiplier, too.
	runs(t, "1 2 = -3; -2 -4 = 6; C 1 2", []int{0}, "infeasible, mult -1 0, pivots 1 0 0")
	runs(t, "0 0 = 0; 1 2 = -3; C 1 2", []int{1}, "infeasible, mult 0 -1/2, pivots 1 0 0")
}

// P16.5: right sides of rows that are gone don't count, and columns of theirs don't come back.
func TestRowsThatAreGone(t *testing.T) {
	runs(t, "-1 -1 1 = -2; -2 -2 2 = -4; 0 0 0 = 0; C 1 1 0", []int{2}, "optimal 2, point 2 0 0, mult -1 0 0, basis 0, pivots 1 1 0")
}

// P16.6: behind the dual way climb.Up has nothing left to do; K counts in the value.
func TestNothingLeftToDo(t *testing.T) {
	runs(t, "-1 -1 1 = -2; C 1 1 0; K -7/3", []int{2}, "optimal -1/3, point 2 0 0, mult -1, basis 0, pivots 1 1 0")
}

// beale is a standard whose basis of the last four columns comes again behind six pivots of the dual way, if the row that is furthest below nought goes.
const beale = "-1/4 -1/2 0 1 0 0 0 = -3/4; 8 12 0 0 1 0 0 = 20; 1 1/2 -1 0 0 1 0 = -1/2; -9 -3 0 0 0 0 1 = 6; C 0 0 1 0 0 0 0"

// furthest gives the row whose right side is furthest below nought.
func furthest(b *board.Board) (row int) {
	for i := range b.Rows() {
		if toBig(b.Right(i)).Cmp(toBig(b.Right(row))) < 0 {
			row = i
		}
	}
	return row
}

// entering gives the column of the least ratio of its reduced cost, of several the least column.
func entering(b *board.Board, i int) (column int) {
	var least *big.Rat
	for j := range b.Cols() - b.Rows() {
		if toBig(b.At(i, j)).Sign() >= 0 {
			continue
		}
		if ratio := by(toBig(b.Reduced(j)), turn(toBig(b.At(i, j)))); least == nil || ratio.Cmp(least) < 0 {
			column, least = j, ratio
		}
	}
	return column
}

// P16.5: where another rule goes round for ever, the dual way comes to its end.
func TestNoGoingRound(t *testing.T) {
	s, list := standard(beale), []int{3, 4, 5, 6}
	b, _ := warm.Place(s, list)
	b.Cost(s.C)
	for range 6 {
		i := furthest(b)
		if err := b.Pivot(i, entering(b, i)); err != nil {
			t.Fatal(err)
		}
	}
	// The columns are in other rows then, which makes no difference to the rule.
	if basis := b.Basis(); !slices.Equal(slices.Sorted(slices.Values(basis)), list) {
		t.Errorf("the other rule doesn't go round:\n%s", shown(b))
	}
	o := warm.Run(s, list)
	asGood(t, s, o)
	if o.Verdict != api.Optimal || numberOf(o.Value) != "5/4" || o.Pivots[1] == 0 || len(o.Trail) > 0 {
		t.Errorf("%s", told(o))
	}
}

package climb_test

import (
	"testing"

	"vertex/api"
	"vertex/board"
	"vertex/climb"
)

// made is the chapter's first standard.
const made = "1 1 1 0 = 4; 1 3 0 1 = 6; C -3 -5 0 0"

// slack brings the last two columns of the chapter's first standard into the basis.
func slack(t *testing.T) *board.Board {
	t.Helper()
	return laid(t, made, [2]int{0, 2}, [2]int{1, 3})
}

// P12.5: from a basis on, by Bland's rule; Pivots' third number counts, and Trail begins with the board's basis.
func TestUp(t *testing.T) {
	ups(t, slack(t), made, "optimal -14, point 3 1 0 0, mult -2 -1, basis 0 1, pivots 0 0 2, trail (2 3) (0 3) (0 1)")
	ups(t, laid(t, made, [2]int{0, 1}, [2]int{1, 0}), made, "optimal -14, point 3 1 0 0, mult -2 -1, basis 0 1, pivots 0 0 0, trail (0 1)")
	ups(t, laid(t, made, [2]int{1, 1}, [2]int{0, 2}), made, "optimal -14, point 3 1 0 0, mult -2 -1, basis 0 1, pivots 0 0 1, trail (1 2) (0 1)")
	ups(t, laid(t, "1 -1 = 0; C 0 0", [2]int{0, 0}), "C -1 0", "unbounded, point 0 0, ray 1 1, basis 0, pivots 0 0 0, trail (0)")
	ups(t, laid(t, "-1 1 0 = 1; 0 1 1 = 5; C 0 0 0", [2]int{0, 1}, [2]int{1, 2}), "C -1 0 0; K 2", "optimal -2, point 4 5 0, mult 1 -1, basis 0 1, pivots 0 0 1, trail (1 2) (0 1)")
}

// P12.5: boards without rows and without columns.
func TestUpOfBareBoards(t *testing.T) {
	ups(t, laid(t, "C"), "C; K 4", "optimal 4, pivots 0 0 0, trail ()")
	ups(t, laid(t, "C 0 0"), "C 0 -2; K 4", "unbounded, point 0 0, ray 0 1, pivots 0 0 0, trail ()")
	ups(t, laid(t, "C 0 0"), "C 1; K 4", "optimal 4, point 0 0, pivots 0 0 0, trail ()")
	ups(t, laid(t, "= 0"), "C -1; K 4", nothing)
	b := laid(t, "= 0")
	must(t, b.Drop(0))
	ups(t, b, "C -1; K 4", "optimal 4, mult 0, pivots 0 0 0, trail ()")
	ups(t, nil, made, nothing)
}

// P12.5: an artificial basic column in a row that is there: the zero outcome; in a row that is gone it doesn't matter.
func TestUpWithArtificialColumns(t *testing.T) {
	ups(t, laid(t, made), made, nothing)
	ups(t, laid(t, made, [2]int{0, 2}), made, nothing)
	ups(t, laid(t, made, [2]int{1, 3}), made, nothing)
	ups(t, laid(t, made, [2]int{0, 2}, [2]int{1, 3}, [2]int{0, 4}), made, nothing)
	b := laid(t, made, [2]int{0, 2})
	must(t, b.Drop(1))
	ups(t, b, made, "optimal -20, point 0 4 0 0, mult -5 0, basis 1, pivots 0 0 2, trail (2) (0) (1)")
	ups(t, laid(t, "0 0 = 0; 1 1 = 1; C 0 0", [2]int{1, 1}), "C 0 0", nothing)
}

// P12.5: a right side below nought in a row that is there: the zero outcome; one of nought is allowed, and in a row that is gone it doesn't matter.
func TestUpWithRightSidesBelowNought(t *testing.T) {
	below := laid(t, made, [2]int{0, 0}, [2]int{1, 2})
	ups(t, below, made, nothing)
	ups(t, laid(t, made, [2]int{1, 1}, [2]int{0, 3}), made, nothing)
	must(t, below.Drop(1))
	ups(t, below, made, "optimal -18, point 6 0 0 0, mult 0 -3, basis 0, pivots 0 0 0, trail (0)")
	ups(t, laid(t, "1 1 = 0; C 0 0", [2]int{0, 0}), "C 1 0", "optimal 0, point 0 0, mult 0, basis 1, pivots 0 0 1, trail (0) (1)")
}

// P12.5: a board behind drops: rows that are gone count for nothing, but have their multipliers.
func TestUpBehindDrops(t *testing.T) {
	b := laid(t, "1 1 1 = 3; 1 -1 0 = 1; 2 0 1 = 4; C 0 0 0", [2]int{0, 0}, [2]int{1, 1})
	must(t, b.Drop(2))
	ups(t, b, "C 1 2 4", "optimal 4, point 2 1 0, mult 3/2 -1/2 0, basis 0 1, pivots 0 0 0, trail (0 1)")
	b = slack(t)
	must(t, b.Drop(0))
	ups(t, b, made, "optimal -18, point 6 0 0 0, mult 0 -3, basis 0, pivots 0 0 1, trail (3) (0)")
	ups(t, b, "C -3 -5 -1", "unbounded, point 6 0 0 0, ray 0 0 1 0, basis 0, pivots 0 0 1, trail (3) (0)")
}

// P12.5: the costs and the constant are those of the standard handed in, whatever the board was told; of it nothing else counts.
func TestUpByOtherCosts(t *testing.T) {
	b := slack(t)
	b.Cost(list("9 9 9 9 9 9"))
	ups(t, b, "C 0 -1; K 1/2", "optimal -3/2, point 0 2 2 0, mult 0 -1/3, basis 1 2, pivots 0 0 1, trail (2 3) (1 2)")
	ups(t, b, "C", "optimal 0, point 0 0 4 6, mult 0 0, basis 2 3, pivots 0 0 0, trail (2 3)")
	ups(t, b, "7 7 = -9; 1 = 1; 1 = 2; C 1 1 1 1", "optimal 4, point 3 1 0 0, mult 1 0, basis 0 1, pivots 0 0 2, trail (2 3) (0 3) (0 1)")
}

// P12.5, R6: costs beyond the board's own columns don't count, not for artificial ones either.
func TestUpByTooManyCosts(t *testing.T) {
	want := "optimal -14, point 3 1 0 0, mult -2 -1, basis 0 1, pivots 0 0 2, trail (2 3) (0 3) (0 1)"
	ups(t, slack(t), "C -3 -5 0 0 7 -8", want)
	ups(t, slack(t), "C -3 -5 0 0 -100 -100 -100", want)
	ups(t, slack(t), "C -3 -5", want)
}

// P12.5: the board handed in stays as it was, its costs too; so the same is answered again.
func TestUpLeavesTheBoard(t *testing.T) {
	b := slack(t)
	b.Cost(list("1 2 3 4 5 6"))
	before := shown(b)
	for range 2 {
		ups(t, b, made, "optimal -14, point 3 1 0 0, mult -2 -1, basis 0 1, pivots 0 0 2, trail (2 3) (0 3) (0 1)")
		ups(t, b, "C 0 0 0 -1", "optimal -6, point 0 0 4 6, mult 0 -1, basis 2 3, pivots 0 0 0, trail (2 3)")
		if shown(b) != before {
			t.Errorf("the board is now\n%s, was\n%s", shown(b), before)
		}
	}
}

// beale is a standard whose basis of the first three columns comes again behind six pivots, if the column of the least reduced cost enters.
const beale = "1 0 0 1/4 -8 -1 9 = 0; 0 1 0 1/2 -12 -1/2 3 = 0; 0 0 1 0 0 1 0 = 1; C 0 0 0 -3/4 20 -1/2 6"

// steepest gives the column of the least reduced cost; -1, if none is below nought.
func steepest(b *board.Board, n int) int {
	found, least := -1, whole(0)
	for j := range n {
		if d := toBig(b.Reduced(j)); d.Cmp(least) < 0 {
			found, least = j, d
		}
	}
	return found
}

// P12.9: where another rule goes round for ever, Bland's comes to an end.
func TestNoGoingRound(t *testing.T) {
	first := laid(t, beale, [2]int{0, 0}, [2]int{1, 1}, [2]int{2, 2})
	s := standard(beale)
	round := first.Clone()
	round.Cost(s.C)
	before := shown(round)
	for range 6 {
		j := steepest(round, len(s.C))
		must(t, round.Pivot(round.Leave(j), j))
	}
	if shown(round) != before {
		t.Errorf("the other rule doesn't go round:\n%s", shown(round))
	}
	for _, o := range []api.Outcome{climb.Up(first, s), climb.Run(s)} {
		proven(t, s, o)
		onTheWay(t, s, o)
		if o.Verdict != api.Optimal || numberOf(o.Value) != "-5/4" {
			t.Errorf("%s", told(o))
		}
	}
}

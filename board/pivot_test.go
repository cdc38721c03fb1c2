package board_test

import (
	"testing"

	"vertex/api"
	"vertex/board"
)

// leaves asks which rows are left, if the columns enter one by one.
func leaves(t *testing.T, b *board.Board, want ...int) {
	t.Helper()
	for j, i := range want {
		if got := b.Leave(j); got != i {
			t.Errorf("Leave(%d): %d, want %d", j, got, i)
		}
	}
}

// P11.6: the least ratio of those rows that have a number above nought there; -1, if there is none.
func TestLeave(t *testing.T) {
	b := laid("1 -1 0 1/2 3 = 4; 2 -2 0 -1 3 = 6; 0 0 0 1 4 = 5; C 0 0 0 0 0")
	leaves(t, b, 1, -1, -1, 2, 2, 0, 1, 2)
	for _, j := range append(far(), 8) {
		if got := b.Leave(j); got != -1 {
			t.Errorf("Leave(%d) of what is no column: %d", j, got)
		}
	}
	leaves(t, laid("1 1 = 0; 5 -1 = 1; C 0 0"), 0, 0)
	leaves(t, laid("1 1 = 1; -5 5 = -1; C 0 0"), 1, 0)
}

// P11.6: of rows with the same ratio the one with the least basic column, which may stand further down; ratios are told exactly.
func TestTies(t *testing.T) {
	b := laid("1 0 1 = 1; 2 1 2 = 2; 3 0 3 = 3; C 0 0 0")
	leaves(t, b, 0, 1, 0)
	must(t, b.Pivot(1, 1))
	basisIs(t, b, 3, 1, 5)
	leaves(t, b, 1, 1, 1)
	b = laid("1 0 3 = 1; 0 1 6 = 2; C 0 0 0")
	must(t, b.Pivot(0, 0))
	leaves(t, b, 0, 1, 0)
	must(t, b.Pivot(1, 1))
	leaves(t, b, 0, 1, 0)
	b = laid("0 1 3 = 1; 1 0 6 = 2; C 0 0 0")
	must(t, b.Pivot(0, 1))
	must(t, b.Pivot(1, 0))
	leaves(t, b, 1, 0, 1)
	leaves(t, laid("1000000000000000000001 = 1000000000000000000000; 1000000000000000000000 = 999999999999999999999; C 0"), 1)
}

// P11.6: a right side may be below nought behind a pivot; its ratio is then the least.
func TestLeaveWithRightSidesBelowNought(t *testing.T) {
	b := laid("-1 1 = 2; 1 1 = 1; 0 2 = 1; C 0 0")
	must(t, b.Pivot(0, 0))
	rowIs(t, b, 0, "1 -1 -1 0 0 = -2")
	rowIs(t, b, 1, "0 2 1 1 0 = 3")
	leaves(t, b, 0, 2)
	b = laid("1 -1 = 2; 1 1 = 1; 1 2 = 9; C 0 0")
	must(t, b.Pivot(0, 0))
	rowIs(t, b, 1, "0 2 -1 1 0 = -1")
	leaves(t, b, 0, 1)
}

// P11.6, P11.8: rows that are gone aren't left.
func TestLeaveOfRowsThatAreGone(t *testing.T) {
	b := laid("1 = 1; 1 = 2; 1 = 2; C 0")
	leaves(t, b, 0, 0, 1, 2)
	must(t, b.Drop(0))
	leaves(t, b, 1, -1, 1, 2)
	must(t, b.Drop(1))
	leaves(t, b, 2, -1, -1, 2)
	must(t, b.Drop(2))
	leaves(t, b, -1, -1, -1, -1)
}

// P11.7: the row is divided, and taken away from the others as often as their number there was.
func TestPivot(t *testing.T) {
	b := laid("2 1 0 = 4; 3 -1 5 = 6; 0 7 1 = 1; -4 0 1 = 3; C 0 0 0")
	must(t, b.Pivot(0, 0))
	rowIs(t, b, 0, "1 1/2 0 1/2 0 0 0 = 2")
	rowIs(t, b, 1, "0 -5/2 5 -3/2 1 0 0 = 0")
	rowIs(t, b, 2, "0 7 1 0 0 1 0 = 1")
	rowIs(t, b, 3, "0 2 1 2 0 0 1 = 11")
	basisIs(t, b, 0, 4, 5, 6)
	must(t, b.Pivot(1, 1))
	rowIs(t, b, 0, "1 0 1 1/5 1/5 0 0 = 2")
	rowIs(t, b, 1, "0 1 -2 3/5 -2/5 0 0 = 0")
	rowIs(t, b, 2, "0 0 15 -21/5 14/5 1 0 = 1")
	rowIs(t, b, 3, "0 0 5 4/5 4/5 0 1 = 11")
	basisIs(t, b, 0, 1, 5, 6)
}

// P11.7: a number below nought is one to pivot at, a row's own basic column too; so is an artificial column.
func TestPivotsOfAllKinds(t *testing.T) {
	b := laid("-2 1 = 4; 1 1 = 3; C 0 0")
	must(t, b.Pivot(0, 0))
	rowIs(t, b, 0, "1 -1/2 -1/2 0 = -2")
	rowIs(t, b, 1, "0 3/2 1/2 1 = 5")
	before := shown(b)
	must(t, b.Pivot(0, 0))
	must(t, b.Pivot(1, 3))
	if shown(b) != before {
		t.Errorf("a pivot at a row's own basic column changed\n%s\nto\n%s", before, shown(b))
	}
	must(t, b.Pivot(1, 2))
	basisIs(t, b, 0, 2)
	rowIs(t, b, 0, "1 1 0 1 = 3")
	rowIs(t, b, 1, "0 3 1 2 = 10")
}

// P11.7: the errors, ErrArg first; nothing has changed then.
func TestPivotErrors(t *testing.T) {
	b := laid("1 0 = 4; 0 0 = 3; 1 2 = 5; C 0 0")
	b.Cost(list("1 2 3 4 5"))
	must(t, b.Drop(2))
	before := shown(b)
	for _, k := range far() {
		// In row 1 and in column 1 there are noughts, too.
		for _, at := range [][2]int{{k, 0}, {0, k}, {k, k}, {k, 1}, {1, k}, {2, k}} {
			if err := b.Pivot(at[0], at[1]); err != api.ErrArg {
				t.Errorf("Pivot(%d, %d): %v", at[0], at[1], err)
			}
		}
	}
	for _, x := range []struct {
		i, j int
		want error
	}{{3, 0, api.ErrArg}, {0, 5, api.ErrArg}, {1, 5, api.ErrArg}, {2, 0, api.ErrArg}, {2, 1, api.ErrArg}, {2, 2, api.ErrArg}, {2, 4, api.ErrArg},
		{0, 1, api.ErrPivot}, {1, 0, api.ErrPivot}, {1, 1, api.ErrPivot}, {0, 3, api.ErrPivot}, {1, 2, api.ErrPivot}, {0, 4, api.ErrPivot}} {
		if err := b.Pivot(x.i, x.j); err != x.want {
			t.Errorf("Pivot(%d, %d): %v, want %v", x.i, x.j, err, x.want)
		}
	}
	if shown(b) != before {
		t.Errorf("errors changed\n%s\nto\n%s", before, shown(b))
	}
}

// P11.7: a row that is gone is pivoted along.
func TestPivotsBesideRowsThatAreGone(t *testing.T) {
	b := laid("1 2 = 3; 2 5 = 8; C 0 0")
	must(t, b.Drop(0))
	must(t, b.Pivot(1, 0))
	rowIs(t, b, 0, "0 -1/2 1 -1/2 = -1")
	rowIs(t, b, 1, "1 5/2 0 1/2 = 4")
	basisIs(t, b, -1, 0)
	must(t, b.Pivot(1, 1))
	rowIs(t, b, 0, "1/5 0 1 -2/5 = -1/5")
	rowIs(t, b, 1, "2/5 1 0 1/5 = 8/5")
	basisIs(t, b, -1, 1)
}

// P11.8: the errors of Drop; nothing has changed then; all rows may go, one by one.
func TestDrop(t *testing.T) {
	b := laid("1 2 = 3; 2 5 = -8; C 0 0")
	b.Cost(list("1 2 3 4"))
	before := shown(b)
	for _, i := range append(far(), 2) {
		if err := b.Drop(i); err != api.ErrArg {
			t.Errorf("Drop(%d): %v", i, err)
		}
	}
	if shown(b) != before {
		t.Errorf("errors changed\n%s\nto\n%s", before, shown(b))
	}
	must(t, b.Drop(1))
	basisIs(t, b, 2, -1)
	before = shown(b)
	if err := b.Drop(1); err != api.ErrArg || shown(b) != before {
		t.Errorf("Drop of a row that is gone: %v", err)
	}
	must(t, b.Drop(0))
	basisIs(t, b, -1, -1)
	rowIs(t, b, 0, "1 2 1 0 = 3")
	rowIs(t, b, 1, "-2 -5 0 1 = 8")
	if b.Rows() != 2 || b.Cols() != 4 {
		t.Errorf("%d rows, %d columns", b.Rows(), b.Cols())
	}
}

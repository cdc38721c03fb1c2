package board_test

import (
	"math"
	"testing"

	"vertex/api"
	"vertex/board"
)

// far are places where there is nothing, whatever the board.
func far() []int { return []int{-1, -2, 99, math.MaxInt, math.MinInt} }

// The chapter's examples.
func TestExamples(t *testing.T) {
	b := laid(example)
	if b.Rows() != 2 || b.Cols() != 5 || b.Turned(0) || !b.Turned(1) {
		t.Errorf("%d rows, %d columns, turned: %v, %v", b.Rows(), b.Cols(), b.Turned(0), b.Turned(1))
	}
	basisIs(t, b, 3, 4)
	rowIs(t, b, 0, "1 1 0 1 0 = 4")
	rowIs(t, b, 1, "1 -1 0 0 1 = 2")
	is(t, "At(2, 0)", b.At(2, 0), "0")
	b.Cost(list("0 0 0 1 1"))
	reducedAre(t, b, "-2 0 0 0 0", "6")
	if b.Enter(3) != 0 || b.Enter(-1) != -1 || b.Leave(0) != 1 || b.Leave(1) != 0 || b.Leave(2) != -1 {
		t.Errorf("Enter: %d, %d; Leave: %d, %d, %d", b.Enter(3), b.Enter(-1), b.Leave(0), b.Leave(1), b.Leave(2))
	}
	if one, two, three := b.Pivot(1, 2), b.Pivot(2, 0), b.Pivot(1, 0); one != api.ErrPivot || two != api.ErrArg || three != nil {
		t.Errorf("Pivot: %v, %v, %v", one, two, three)
	}
	basisIs(t, b, 3, 0)
	rowIs(t, b, 0, "0 2 0 1 -1 = 2")
	rowIs(t, b, 1, "1 -1 0 0 1 = 2")
	reducedAre(t, b, "0 -2 0 0 2", "2")
	multAre(t, b, "1 1")
	if one, two := b.Drop(0), b.Drop(0); one != nil || two != api.ErrArg {
		t.Errorf("Drop: %v, %v", one, two)
	}
	basisIs(t, b, -1, 0)
	is(t, "worth", b.Worth(), "0")
	is(t, "At(0, 1)", b.At(0, 1), "2")
	if b.Leave(1) != -1 {
		t.Errorf("Leave(1): %d", b.Leave(1))
	}
}

// P11.1: right sides above nought and at it leave a row as it is, one below it turns the row, but not its artificial column.
func TestTurnedRows(t *testing.T) {
	b := laid("1 -2 = 1/3; 1 -2 = 0; 1 -2 = -1/3; -3 4/5 = -7; C 5 6")
	rowIs(t, b, 0, "1 -2 1 0 0 0 = 1/3")
	rowIs(t, b, 1, "1 -2 0 1 0 0 = 0")
	rowIs(t, b, 2, "-1 2 0 0 1 0 = 1/3")
	rowIs(t, b, 3, "3 -4/5 0 0 0 1 = 7")
	basisIs(t, b, 2, 3, 4, 5)
	for i, want := range []bool{false, false, true, true} {
		if b.Turned(i) != want {
			t.Errorf("Turned(%d): %v", i, b.Turned(i))
		}
	}
	for _, i := range append(far(), 4) {
		if b.Turned(i) {
			t.Errorf("Turned(%d) of what is no row", i)
		}
	}
	must(t, b.Pivot(2, 1))
	must(t, b.Drop(2))
	if !b.Turned(2) || b.Turned(1) {
		t.Error("behind a pivot and a drop the rows that were turned are others")
	}
}

// P11.1: all costs are 0 at the beginning, the standard's C and K count for nothing.
func TestNoCostsAtTheBeginning(t *testing.T) {
	s := standard("1 2 = 3; 4 5 = -6; C 7 -8")
	s.K = num("9")
	b := board.New(s)
	reducedAre(t, b, "0 0 0 0", "0")
	multAre(t, b, "0 0")
	if b.Enter(4) != -1 {
		t.Errorf("Enter(4): %d", b.Enter(4))
	}
	must(t, b.Pivot(0, 1))
	reducedAre(t, b, "0 0 0 0", "0")
}

// P11.1, R6: as many columns as C is long, as many rows as B; what A lacks is 0, what it has beyond doesn't count.
func TestStandardsByHand(t *testing.T) {
	b := laid("1 = 1; 1 2 3 = -2; = 3; 1 2 = 4; C 0 0")
	rowIs(t, b, 0, "1 0 1 0 0 0 = 1")
	rowIs(t, b, 1, "-1 -2 0 1 0 0 = 2")
	rowIs(t, b, 2, "0 0 0 0 1 0 = 3")
	rowIs(t, b, 3, "1 2 0 0 0 1 = 4")
	fewer := standard("1 2 = 3; 4 5 = 6; C 1 2")
	fewer.A = fewer.A[:1]
	b = board.New(fewer)
	rowIs(t, b, 0, "1 2 1 0 = 3")
	rowIs(t, b, 1, "0 0 0 1 = 6")
	more := standard("1 2 = 3; 4 5 = -6; C 1 2")
	more.B = more.B[:1]
	b = board.New(more)
	if b.Rows() != 1 || b.Cols() != 3 {
		t.Errorf("%d rows, %d columns", b.Rows(), b.Cols())
	}
	rowIs(t, b, 0, "1 2 1 = 3")
	none := standard("1 2 = 3; 4 5 = -6; C 1 2")
	none.A = nil
	b = board.New(none)
	rowIs(t, b, 0, "0 0 1 0 = 3")
	rowIs(t, b, 1, "0 0 0 1 = 6")
	if !b.Turned(1) {
		t.Error("a row without numbers isn't turned")
	}
}

// P11.1, P11.2: standards without rows, without columns, without anything.
func TestStandardsThatLackThings(t *testing.T) {
	for _, s := range []api.Standard{{}, {A: [][]api.Rat{list("1 2"), nil}, K: num("3")}, {A: [][]api.Rat{}, B: []api.Rat{}, C: []api.Rat{}}} {
		b := board.New(s)
		if b.Rows() != 0 || b.Cols() != 0 || len(b.Basis()) != 0 || b.Enter(7) != -1 || b.Leave(0) != -1 || b.Pivot(0, 0) != api.ErrArg || b.Drop(0) != api.ErrArg {
			t.Errorf("of nothing: %s", shown(b))
		}
		b.Cost(list("1 2 3"))
		reducedAre(t, b, "", "0")
	}
	b := board.New(api.Standard{A: [][]api.Rat{list("1 2")}, C: list("1 2 3")})
	if b.Rows() != 0 || b.Cols() != 3 || len(b.Basis()) != 0 || b.Leave(1) != -1 || b.Pivot(0, 1) != api.ErrArg {
		t.Errorf("without rows: %s", shown(b))
	}
	b.Cost(list("0 2 -3 -4"))
	reducedAre(t, b, "0 2 -3", "0")
	if b.Enter(9) != 2 || b.Enter(3) != 2 || b.Enter(2) != -1 {
		t.Errorf("without rows, Enter: %d, %d, %d", b.Enter(9), b.Enter(3), b.Enter(2))
	}
	b = laid("5 6 = 3; = -4; C")
	rowIs(t, b, 0, "1 0 = 3")
	rowIs(t, b, 1, "0 1 = 4")
	basisIs(t, b, 0, 1)
	b.Cost(list("2 5"))
	reducedAre(t, b, "0 0", "26")
	multAre(t, b, "2 -5")
}

// P11.2: what stands nowhere is 0, in the one form; rows that are gone are still told.
func TestPlacesThatAreNotThere(t *testing.T) {
	b := laid("1 2 = 3; 4 5 = 6; C 1 2")
	b.Cost(list("1 2 3 4"))
	for _, k := range append(far(), 4) {
		is(t, "At(0, k)", b.At(0, k), "0")
		is(t, "Reduced(k)", b.Reduced(k), "0")
	}
	for _, k := range append(far(), 2) {
		is(t, "At(k, 0)", b.At(k, 0), "0")
		is(t, "At(k, k)", b.At(k, k), "0")
		is(t, "Right(k)", b.Right(k), "0")
		is(t, "Mult(k)", b.Mult(k), "0")
	}
	must(t, b.Drop(0))
	rowIs(t, b, 0, "1 2 1 0 = 3")
	basisIs(t, b, -1, 3)
}

// R5: numbers count for what they are, however they are told, and are answered in the one form.
func TestNumbersInOtherForms(t *testing.T) {
	s := api.Standard{A: [][]api.Rat{{odd("2"), odd("-1/2"), odd("18446744073709551616")}, {odd("-4/3"), odd("3")}}, B: []api.Rat{odd("1/2"), odd("-5")}, C: make([]api.Rat, 3)}
	b := board.New(s)
	rowIs(t, b, 0, "2 -1/2 18446744073709551616 1 0 = 1/2")
	rowIs(t, b, 1, "4/3 -3 0 0 1 = 5")
	b.Cost([]api.Rat{odd("1/2"), odd("-3"), odd("36893488147419103232"), odd("2"), odd("-1/3")})
	reducedAre(t, b, "-55/18 -3 0 0 0", "-2/3")
	multAre(t, b, "2 1/3")
	for _, a := range noughts() {
		b := board.New(api.Standard{A: [][]api.Rat{{a, num("1"), a}, {a, a, num("-1")}}, B: []api.Rat{a, a}, C: []api.Rat{a, a, a}})
		rowIs(t, b, 0, "0 1 0 1 0 = 0")
		rowIs(t, b, 1, "0 0 -1 0 1 = 0")
		b.Cost([]api.Rat{a, a, num("1"), a, num("2")})
		reducedAre(t, b, "0 0 3 0 0", "0")
		if b.Turned(0) || b.Leave(0) != -1 || b.Leave(1) != 0 || b.Pivot(0, 0) != api.ErrPivot {
			t.Errorf("a nought told as %v counts for something", a)
		}
	}
}

// Boards of many rows and columns are laid, pivoted and asked as small ones are.
func TestManyRows(t *testing.T) {
	const many = 20000
	s := api.Standard{B: make([]api.Rat, many), C: make([]api.Rat, many)}
	for i := range many {
		numbers := make([]api.Rat, i%7+1)
		numbers[i%7] = num("3")
		s.A, s.B[i] = append(s.A, numbers), num("1")
	}
	b := board.New(s)
	must(t, b.Pivot(7, 0))
	is(t, "the artificial column", b.At(14, many+7), "-1")
	is(t, "a row pivoted along", b.At(14, 0), "0")
	is(t, "one that has nothing there", b.At(15, many+7), "0")
	is(t, "a right side", b.Right(7), "1/3")
	if b.Cols() != 2*many || b.Leave(1) != 1 || b.Leave(0) != 7 {
		t.Errorf("%d columns, Leave: %d, %d", b.Cols(), b.Leave(1), b.Leave(0))
	}
}

package warm_test

import (
	"math"
	"math/big"
	"slices"
	"testing"

	"vertex/api"
	"vertex/board"
	"vertex/warm"
)

// made is the chapter's s, and other is its t.
const (
	made  = "1 1 1 0 = 4; 1 3 0 1 = 6; C -3 -5 0 0"
	other = "1 1 1 0 = 4; 1 3 0 1 = 15; C -3 -5 0 0"
)

// P16.1: columns are brought in one behind the other, each in the least row that can take it.
func TestPlace(t *testing.T) {
	b := places(t, made, []int{1, 0}, []int{1, 0}, "1 3", true)
	rowIs(t, b, 0, "0 1 -1/2 1/2 -1/2 1/2 = 1")
	rowIs(t, b, 1, "1 0 3/2 -1/2 3/2 -1/2 = 3")
	places(t, made, []int{0, 1}, []int{0, 1}, "3 1", true)
	places(t, made, []int{2, 3}, []int{2, 3}, "4 6", true)
	places(t, made, []int{3, 2}, []int{2, 3}, "4 6", true)
	places(t, other, []int{0, 1}, []int{0, 1}, "-3/2 11/2", true)
}

// P16.1: a row that has a nought in the column is passed over, and so is one that is no longer held; a number below nought serves as well.
func TestLeastRowThatIsHeld(t *testing.T) {
	const text = "0 1 1 0 = 1; -2 1 0 0 = 2; 3 0 0 5 = 3; C 0 0 0 0"
	b := places(t, text, []int{0, 1, 3}, []int{1, 0, 3}, "1 -1/2 9/10", true)
	rowIs(t, b, 0, "0 1 1 0 1 0 0 = 1")
	rowIs(t, b, 1, "1 0 1/2 0 1/2 -1/2 0 = -1/2")
	places(t, text, []int{1, 0, 3}, []int{1, 0, 3}, "1 -1/2 9/10", true)
	places(t, text, []int{3, 0, 1}, []int{1, 0, 3}, "1 -1/2 9/10", true)
	places(t, text, []int{2, 0, 3}, []int{2, 0, 3}, "1 -1 6/5", true)
	// Column 1 is brought in in row 0, so that row 1 has a number in column 2, too.
	places(t, text, []int{1, 2, 0}, []int{1, 2, 0}, "4 -3 1", true)
}

// P16.1: numbers that are no columns are passed over: those below 0, those of artificial columns, and others beyond.
func TestNumbersThatAreNoColumns(t *testing.T) {
	for _, list := range [][]int{{-1}, {4}, {5}, {4, 5}, {6, 7, 99}, {math.MinInt, math.MaxInt}, {-4, -3, -2, -1}} {
		places(t, made, list, []int{0, 1}, "3 1", true)
		places(t, made, append(slices.Clone(list), 3, 2), []int{2, 3}, "4 6", true)
		places(t, made, append([]int{3}, append(list, 2)...), []int{2, 3}, "4 6", true)
	}
}

// P16.1: one column twice, and columns that can't be brought in, as all their rows are taken or they hang on those that are there.
func TestColumnsThatCannotComeIn(t *testing.T) {
	places(t, made, []int{1, 1}, []int{1, 0}, "1 3", true)
	places(t, made, []int{9, -1, 1, 1}, []int{1, 0}, "1 3", true)
	places(t, made, []int{3, 3, 3, 2, 3, 2}, []int{2, 3}, "4 6", true)
	const twins = "1 2 0 = 2; 2 4 1 = 5; C 0 0 0"
	places(t, twins, []int{1, 0}, []int{1, 2}, "1 1", true)
	places(t, twins, []int{0, 1}, []int{0, 2}, "2 1", true)
	places(t, twins, []int{0, 1, 2}, []int{0, 2}, "2 1", true)
	places(t, "0 1 = 2; 0 2 = 4; C 0 0", []int{0, 1}, []int{1, -1}, "2 0", true)
}

// P16.1, R3: no list, an empty one, too few columns, too many.
func TestListsOfAnyLength(t *testing.T) {
	places(t, made, nil, []int{0, 1}, "3 1", true)
	places(t, made, []int{}, []int{0, 1}, "3 1", true)
	places(t, made, []int{3}, []int{0, 3}, "4 2", true)
	places(t, made, []int{2}, []int{2, 0}, "-2 6", true)
	places(t, made, []int{2, 0, 1, 3}, []int{2, 0}, "-2 6", true)
	places(t, made, []int{3, 1, 0, 2}, []int{1, 3}, "4 -6", true)
	places(t, made, []int{3, 2, 1, 0, 3, 2, 1, 0}, []int{2, 3}, "4 6", true)
}

// P16.2: the rows that are still held, in order, each by its least column that isn't nought, below nought or above.
func TestRowsStillHeld(t *testing.T) {
	places(t, "0 -2 1 = 4; 1 1 1 = 6; C 0 0 0", nil, []int{1, 0}, "-2 8", true)
	places(t, "0 0 3 = 3; 0 -1 1 = 2; 4 1 1 = 1; C 0 0 0", nil, []int{2, 1, 0}, "1 -1 1/4", true)
	places(t, "1 1 0 = 3; 1 1 1 = 2; 1 0 0 = 1; C 0 0 0", []int{1}, []int{1, 2, 0}, "2 -1 1", true)
	places(t, "1 0 2 = 3; 1 2 0 = 2; 1 0 0 = 1; C 0 0 0", []int{1}, []int{0, 1, 2}, "1 1/2 1", true)
}

// P16.2: a row without such a column is dropped, if its right side is 0.
func TestRowsThatAreDropped(t *testing.T) {
	b := places(t, "1 1 = 2; 2 2 = 4; C 0 0", nil, []int{0, -1}, "2 0", true)
	rowIs(t, b, 1, "0 0 -2 1 = 0")
	places(t, "1 1 = 2; 2 2 = 4; C 0 0", []int{1, 0}, []int{1, -1}, "2 0", true)
	places(t, "0 0 = 0; 1 1 = 2; -1 -1 = -2; C 0 0", nil, []int{-1, 0, -1}, "0 2 0", true)
	places(t, "1 = 1; 0 = 0; 2 = 2; C 0", []int{0}, []int{0, -1, -1}, "1 0 0", true)
	places(t, "= 0; = 0; C", nil, []int{-1, -1}, "0 0", true)
}

// P16.2: a row without such a column and with another right side: the board as it stands then, and false. Rows ahead of it are done, rows behind it are still held.
func TestRowsThatNothingMeets(t *testing.T) {
	b := places(t, "1 1 = 2; 1 1 = 3; C 0 0", []int{0}, []int{0, 3}, "2 1", false)
	rowIs(t, b, 0, "1 1 1 0 = 2")
	rowIs(t, b, 1, "0 0 -1 1 = 1")
	places(t, "1 1 = 3; 1 1 = 2; C 0 0", []int{0}, []int{0, 3}, "3 -1", false)
	places(t, "0 0 = 0; 1 0 = 1; 0 0 = -2; 0 0 = 0; 0 1 = 5; C 0 0", nil, []int{-1, 0, 4, 5, 6}, "0 1 2 0 5", false)
	places(t, "0 0 = 0; 1 0 = 1; 0 0 = -2; 0 0 = 0; 0 1 = 5; C 0 0", []int{1}, []int{-1, 0, 4, 5, 1}, "0 1 2 0 5", false)
	places(t, "= 0; = 7; = 0; C", nil, []int{-1, 1, 2}, "0 7 0", false)
}

// P16.1: the board wasn't told any costs, and says which rows were turned.
func TestPlaceTellsNoCosts(t *testing.T) {
	b := places(t, "-1 -1 -1 0 = -4; 1 3 0 1 = 6; C -3 -5 0 0", []int{0, 1}, []int{0, 1}, "3 1", true)
	if !b.Turned(0) || b.Turned(1) {
		t.Errorf("turned: %v, %v", b.Turned(0), b.Turned(1))
	}
	for j := range b.Cols() {
		if numberOf(b.Reduced(j)) != "0" {
			t.Errorf("column %d has a reduced cost: %s", j, numberOf(b.Reduced(j)))
		}
	}
	rowIs(t, b, 0, "1 0 3/2 -1/2 3/2 -1/2 = 3")
}

// R6: standards without rows, without columns, without either, and with lists of other lengths.
func TestPlaceOfBareStandards(t *testing.T) {
	places(t, "C", []int{0, 1}, nil, "", true)
	places(t, "C 1 -1", []int{0, 1, -1}, nil, "", true)
	places(t, "1 1 = 0; C", []int{0}, []int{-1}, "0", true)
	places(t, "1 1 = 5; C", []int{0}, []int{0}, "5", false)
	b := places(t, "1 1 1 = 4; 1 3 0 1 9 9 = 6; C 0 0 0 0", []int{4, 1, 0}, []int{1, 0}, "1 3", true)
	if b.Rows() != 2 || b.Cols() != 6 {
		t.Errorf("%d rows, %d columns", b.Rows(), b.Cols())
	}
	s := standard("1 1 = 4; 1 3 = 6; C 0 0")
	s.A = append(s.A[:1], nil)
	if b, is := warm.Place(s, []int{1}); is || !slices.Equal(b.Basis(), []int{1, 3}) {
		t.Errorf("a row that is missing: %v, %v", b.Basis(), is)
	}
	s.A = append(s.A[:1], list("1 3"), list("5 5"))
	if b, is := warm.Place(s, []int{1}); !is || !slices.Equal(b.Basis(), []int{1, 0}) {
		t.Errorf("a row too many: %v, %v", b.Basis(), is)
	}
	if b, is := warm.Place(api.Standard{}, nil); !is || b.Rows() != 0 || b.Cols() != 0 {
		t.Errorf("the zero standard: %v, %v", shown(b), is)
	}
}

// hasSolution tells whether some y, whatever its signs, meets a standard's equations: by elimination, without a board.
func hasSolution(s api.Standard) bool {
	var rows [][]*big.Rat
	for i, right := range s.B {
		var numbers []*big.Rat
		for j := range s.C {
			numbers = append(numbers, entryOf(s, i, j))
		}
		rows = append(rows, append(numbers, toBig(right)))
	}
	for j := range s.C {
		at := slices.IndexFunc(rows, func(numbers []*big.Rat) bool { return numbers[j].Sign() != 0 })
		if at < 0 {
			continue
		}
		lead := rows[at]
		rows = slices.Delete(rows, at, at+1)
		for _, numbers := range rows {
			often := by(numbers[j], lead[j])
			for c := range numbers {
				numbers[c] = minus(numbers[c], times(often, lead[c]))
			}
		}
	}
	return !slices.ContainsFunc(rows, func(numbers []*big.Rat) bool { return numbers[len(s.C)].Sign() != 0 })
}

// isHeld tells whether a row of a board is held by an artificial column.
func isHeld(b *board.Board) bool {
	return slices.ContainsFunc(b.Basis(), func(j int) bool { return j >= b.Cols()-b.Rows() })
}

// P16.1 to P16.3: boards of standards and lists of all kinds are those that the promises tell, number by number; false just if nothing meets the equations.
func TestPlacesByChance(t *testing.T) {
	r, count := chances(161), map[string]int{}
	for range 2500 {
		s := r.standard(5, 6)
		list := r.columns(s)
		p := firstState(s)
		_, want := p.place(list)
		b, is := warm.Place(s, list)
		if is != want || shown(b) != p.shown() {
			t.Fatalf("%v,\n%s\nwant %v,\n%s\nof %v, %v", is, shown(b), want, p.shown(), s, list)
		}
		if is != hasSolution(s) || is == isHeld(b) {
			t.Fatalf("%v, of %v, %v:\n%s", is, s, list, shown(b))
		}
		count[map[bool]string{true: "whole", false: "not whole"}[is]]++
		if slices.Contains(b.Basis(), -1) {
			count["dropped"]++
		}
	}
	enough(t, 200, count, "whole", "not whole", "dropped")
}

package board_test

import (
	"math"
	"testing"

	"vertex/api"
	"vertex/board"
)

// P11.3: costs of all columns, the artificial ones too; missing ones are 0, further ones don't count; each telling is of all of them.
func TestCosts(t *testing.T) {
	b := laid("1 2 = 3; 4 5 = 6; C 9 9")
	for _, x := range []struct{ costs, reduced, worth, mult string }{
		{"1 2 3 4", "-18 -24 0 0", "33", "3 4"},
		{"1 2 3", "-2 -4 0 0", "9", "3 0"},
		{"1 2", "1 2 0 0", "0", "0 0"},
		{"-1", "-1 0 0 0", "0", "0 0"},
		{"", "0 0 0 0", "0", "0 0"},
		{"0 0 0 1", "-4 -5 0 0", "6", "0 1"},
		{"1 2 3 4 5 6 7", "-18 -24 0 0", "33", "3 4"},
		{"1/2 1/3 -1/7 0", "9/14 13/21 0 0", "-3/7", "-1/7 0"},
	} {
		b.Cost(list(x.costs))
		reducedAre(t, b, x.reduced, x.worth)
		multAre(t, b, x.mult)
	}
	b.Cost(nil)
	reducedAre(t, b, "0 0 0 0", "0")
}

// P11.3: costs told anew behind pivots, and told ones that go on behind pivots, go by the board as it is.
func TestCostsBehindPivots(t *testing.T) {
	b := laid("1 1 1 0 = 4; 1 3 0 1 = 6; C 0 0 0 0")
	b.Cost(list("-3 -5 0 0 0 0"))
	reducedAre(t, b, "-3 -5 0 0 0 0", "0")
	must(t, b.Pivot(0, 0))
	reducedAre(t, b, "0 -2 3 0 3 0", "-12")
	must(t, b.Pivot(1, 1))
	reducedAre(t, b, "0 0 2 1 2 1", "-14")
	multAre(t, b, "-2 -1")
	b.Cost(list("1 2 3"))
	reducedAre(t, b, "0 0 5/2 -1/2 -1/2 -1/2", "5")
	multAre(t, b, "1/2 1/2")
	b.Cost(list("0 0 0 0 1 1 1"))
	reducedAre(t, b, "0 0 0 0 1 1", "0")
	multAre(t, b, "0 0")
}

// P11.3, P11.8: rows that are gone count for nothing in Reduced and Worth, whatever is told of costs.
func TestCostsOfRowsThatAreGone(t *testing.T) {
	b := laid("1 2 = 3; 4 5 = 6; C 0 0")
	b.Cost(list("0 0 1 1"))
	must(t, b.Drop(1))
	reducedAre(t, b, "-1 -2 0 1", "3")
	multAre(t, b, "1 0")
	b.Cost(list("1 1 1 7"))
	reducedAre(t, b, "0 -1 0 7", "3")
	must(t, b.Drop(0))
	reducedAre(t, b, "1 1 1 7", "0")
	multAre(t, b, "0 0")
}

// P11.4: a multiplier is what the artificial column's cost and its reduced cost are apart, turned with its row; of a row that is gone, too.
func TestMult(t *testing.T) {
	b := laid("2 1 = -4; 1 3 = 6; C 0 0")
	b.Cost(list("3 5 7 11"))
	multAre(t, b, "-7 11")
	must(t, b.Pivot(0, 0))
	rowIs(t, b, 0, "1 1/2 -1/2 0 = -2")
	rowIs(t, b, 1, "0 5/2 1/2 1 = 8")
	reducedAre(t, b, "0 -24 3 0", "82")
	multAre(t, b, "-4 11")
	must(t, b.Drop(1))
	reducedAre(t, b, "0 7/2 17/2 11", "-6")
	multAre(t, b, "3/2 0")
	must(t, b.Pivot(0, 1))
	b.Cost(list("0 1 5 5"))
	multAre(t, b, "1 0")
	// A multiplier of a row that is gone need not be 0.
	b = laid("1 0 = 1; 1 1 = 2; C 0 0")
	must(t, b.Pivot(0, 0))
	b.Cost(list("0 1 0 0"))
	must(t, b.Pivot(1, 1))
	must(t, b.Drop(0))
	multAre(t, b, "-1 1")
}

// P11.5: the least column whose reduced cost is below nought, of those below n; any n.
func TestEnter(t *testing.T) {
	b := laid("1 1 1 = 1; C 0 0 0")
	b.Cost(list("0 -1 -2 -3/7"))
	reducedAre(t, b, "3/7 -4/7 -11/7 0", "-3/7")
	for n, want := range map[int]int{math.MinInt: -1, -1: -1, 0: -1, 1: -1, 2: 1, 3: 1, 4: 1, 5: 1, math.MaxInt: 1} {
		if got := b.Enter(n); got != want {
			t.Errorf("Enter(%d): %d, want %d", n, got, want)
		}
	}
	b.Cost(list("1 0 -1 0"))
	if b.Enter(2) != -1 || b.Enter(3) != 2 {
		t.Errorf("a reduced cost of nought, and one above it: Enter: %d, %d", b.Enter(2), b.Enter(3))
	}
	must(t, b.Pivot(0, 2))
	if b.Enter(9) != -1 {
		t.Errorf("a basic column, costs above nought: Enter: %d", b.Enter(9))
	}
}

// P11.5: artificial columns may enter; basic ones never do; the basic column of a row that is gone does.
func TestEnterOfArtificialColumns(t *testing.T) {
	b := laid("1 = 1; 0 = 2; C 0")
	b.Cost(list("1 -1 -1"))
	if b.Enter(9) != -1 {
		t.Errorf("basic columns that cost less than nought: Enter: %d", b.Enter(9))
	}
	must(t, b.Pivot(0, 0))
	if b.Enter(9) != 1 || b.Enter(1) != -1 {
		t.Errorf("an artificial column: Enter: %d, %d", b.Enter(9), b.Enter(1))
	}
	must(t, b.Drop(1))
	b.Cost(list("0 0 -1"))
	if b.Enter(9) != 2 || b.Enter(2) != -1 {
		t.Errorf("the column of a row that is gone: Enter: %d, %d", b.Enter(9), b.Enter(2))
	}
}

// Costs of many limbs are told to the last one.
func TestGreatCosts(t *testing.T) {
	b := board.New(api.Standard{A: [][]api.Rat{list("340282366920938463463374607431768211457 1/340282366920938463463374607431768211456")}, B: list("18446744073709551616"), C: list("0 0")})
	b.Cost(list("340282366920938463463374607431768211456 0 1"))
	reducedAre(t, b, "-1 -1/340282366920938463463374607431768211456 0", "18446744073709551616")
	must(t, b.Pivot(0, 1))
	is(t, "the right side", b.Right(0), "6277101735386680763835789423207666416102355444464034512896")
	is(t, "At(0, 0)", b.At(0, 0), "115792089237316195423570985008687907853610267032561502502920958615344897851392")
}

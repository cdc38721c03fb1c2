package rat_test

import (
	"math/big"
	"math/rand"
	"testing"

	"vertex/api"
	"vertex/rat"
)

// P3.8
func TestFloorCeilIsWhole(t *testing.T) {
	for _, x := range []struct {
		a           api.Rat
		floor, ceil int64
	}{
		{by(-7, 2), -4, -3}, {by(7, 2), 3, 4}, {by(4, 1), 4, 4}, {by(-4, 1), -4, -4}, {by(8, 4), 2, 2}, {by(-8, 4), -2, -2}, {by(8, 3), 2, 3}, {by(1, 9), 0, 1}, {by(-1, 9), -1, 0},
		{by(0, 5), 0, 0}, {by(7, 0), 0, 0}, {by(-7, 0), 0, 0}, {limbs(true, nil, api.Nat{1}), 0, 0}, {limbs(true, api.Nat{1, 0}, api.Nat{0, 1, 0}), -1, 0}, {limbs(false, api.Nat{1}, api.Nat{0, 1}), 0, 1},
	} {
		isInt(t, "Floor", rat.Floor(x.a), intFromBig(big.NewInt(x.floor)))
		isInt(t, "Ceil", rat.Ceil(x.a), intFromBig(big.NewInt(x.ceil)))
		if rat.IsWhole(x.a) != (x.floor == x.ceil) {
			t.Errorf("IsWhole(%v) is %v", x.a, rat.IsWhole(x.a))
		}
	}
	for a := range pairs {
		n := toBig(a)
		// Div rounds down, where the second number is above nought.
		floor := new(big.Int).Div(n.Num(), n.Denom())
		isInt(t, "Floor", rat.Floor(a), intFromBig(floor))
		if rat.IsWhole(a) != n.IsInt() {
			t.Fatalf("IsWhole(%v) is %v", a, rat.IsWhole(a))
		}
		if !n.IsInt() {
			floor.Add(floor, big.NewInt(1))
		}
		isInt(t, "Ceil", rat.Ceil(a), intFromBig(floor))
	}
}

// P3.9
func TestSimplest(t *testing.T) {
	for _, x := range []struct {
		lo, hi api.Rat
		want   string
	}{
		{by(2, 5), by(3, 5), "1/2"}, {by(-7, 2), by(-5, 4), "-2"}, {by(-1, 1), by(1, 9), "0"}, {by(31, 100), by(33, 100), "5/16"}, {by(7, 5), by(7, 5), "7/5"},
		{by(-33, 100), by(-31, 100), "-5/16"}, {by(-3, 5), by(-2, 5), "-1/2"}, {by(-7, 5), by(-14, 10), "-7/5"}, {by(5, 4), by(7, 2), "2"},
		{by(0, 1), by(5, 1), "0"}, {by(-5, 1), by(0, 1), "0"}, {by(7, 0), by(3, 2), "0"}, {by(-3, 2), by(7, 0), "0"}, {by(7, 0), by(-3, 0), "0"}, {by(1, 9), by(5, 1), "1"}, {by(-5, 1), by(-1, 9), "-1"},
		{by(3, 1), by(9, 1), "3"}, {by(-9, 1), by(-3, 1), "-3"}, {by(3, 1), by(3, 1), "3"}, {by(5, 2), by(3, 1), "3"}, {by(1, 3), by(1, 2), "1/2"}, {by(1, 3), by(2, 5), "1/3"}, {by(12, 30), by(24, 40), "1/2"},
		{by(1, 1000), by(2, 1000), "1/500"}, {by(999, 1000), by(1999, 2000), "999/1000"}, {by(3141592, 1000000), by(3141593, 1000000), "355/113"},
		{limbs(false, api.Nat{0, 1}, api.Nat{1, 1}), limbs(false, api.Nat{0, 1}, api.Nat{1, 1}), "18446744073709551616/18446744073709551617"},
	} {
		a, err := rat.Simplest(x.lo, x.hi)
		tells(t, "Simplest", a, x.want)
		if err != nil {
			t.Errorf("Simplest(%v, %v): %v", x.lo, x.hi, err)
		}
	}
}

// P3.9
func TestSimplestRefuses(t *testing.T) {
	for _, x := range [][2]api.Rat{{by(1, 2), by(1, 3)}, {by(-1, 3), by(-1, 2)}, {by(1, 9), by(-1, 9)}, {by(1, 9), by(7, 0)}, {by(7, 0), by(-1, 9)}, {limbs(false, api.Nat{1, 1}, api.Nat{0, 1}), by(1, 1)}} {
		a, err := rat.Simplest(x[0], x[1])
		fails(t, "Simplest", a, err, api.ErrArg)
	}
}

// simplest tries one Den after another, and of each the numbers that aren't below lo, or aren't above hi, whichever is nearer to nought.
func simplest(lo, hi *big.Rat) *big.Rat {
	if lo.Sign() <= 0 && hi.Sign() >= 0 {
		return new(big.Rat)
	}
	if hi.Sign() < 0 {
		n := simplest(new(big.Rat).Neg(hi), new(big.Rat).Neg(lo))
		return n.Neg(n)
	}
	for den := int64(1); ; den++ {
		num := new(big.Int).Mul(lo.Num(), big.NewInt(den))
		num.Add(num, lo.Denom()).Sub(num, big.NewInt(1)).Div(num, lo.Denom())
		if n := new(big.Rat).SetFrac(num, big.NewInt(den)); n.Cmp(hi) <= 0 {
			return n
		}
	}
}

// P3.9: all pairs of small fractions.
func TestSimplestOfSmallOnes(t *testing.T) {
	var all []api.Rat
	for num := int64(-14); num <= 14; num++ {
		for den := uint64(0); den <= 7; den++ {
			all = append(all, by(num, den))
		}
	}
	for _, lo := range all {
		for _, hi := range all {
			got, err := rat.Simplest(lo, hi)
			low, high := toBig(lo), toBig(hi)
			if low.Cmp(high) > 0 {
				fails(t, "Simplest", got, err, api.ErrArg)
				continue
			}
			isBig(t, "Simplest", got, simplest(low, high))
			if err != nil {
				t.Fatalf("Simplest(%v, %v): %v", lo, hi, err)
			}
		}
	}
}

// P3.9: narrow gaps, whose answers go down many terms.
func TestSimplestOfNarrowGaps(t *testing.T) {
	r := rand.New(rand.NewSource(29))
	for range 2000 {
		den := uint64(r.Intn(3000) + 1)
		num := int64(r.Intn(20000) - 10000)
		lo, hi := by(num, den), by(num+int64(r.Intn(4)), den+uint64(r.Intn(2)))
		if toBig(lo).Cmp(toBig(hi)) > 0 {
			lo, hi = hi, lo
		}
		got, _ := rat.Simplest(lo, hi)
		isBig(t, "Simplest", got, simplest(toBig(lo), toBig(hi)))
	}
}

// P3.9: a fraction of many limbs is the simplest about itself, as far as one by twice the square of its Den reaches on either side.
func TestSimplestOfLongOnes(t *testing.T) {
	for a := range pairs {
		a = rat.Norm(a)
		n := toBig(a)
		gap := new(big.Int).Mul(n.Denom(), n.Denom())
		width := new(big.Rat).SetFrac(big.NewInt(1), gap.Lsh(gap, 1))
		lo, hi := new(big.Rat).Sub(n, width), new(big.Rat).Add(n, width)
		if n.IsInt() {
			// The gap of a whole number is half of 1 and holds no other.
			lo, hi = new(big.Rat).Set(n), hi.Add(n, big.NewRat(1, 2))
			if n.Sign() < 0 {
				lo, hi = hi.Sub(n, big.NewRat(1, 2)), lo
			}
		}
		got, err := rat.Simplest(fromBig(lo), fromBig(hi))
		is(t, "Simplest about it", got, a)
		if err != nil {
			t.Fatalf("Simplest about %v: %v", a, err)
		}
	}
}

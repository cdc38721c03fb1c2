package near_test

import (
	"math/big"
	"slices"
	"testing"

	"vertex/near"
)

// P4.7: Down and Up are neighbours, or r; Float is one of them, and tells on which side it lies.
func TestNoFloatLiesBetween(t *testing.T) {
	for r := range numbers {
		for _, r := range []*big.Rat{r, neg(r)} {
			a := one(r)
			down, up := near.Down(a), near.Up(a)
			f, side := near.Float(a)
			if down == up && (side != 0 || value(down).Cmp(r) != 0) {
				t.Fatalf("%v: Down and Up are both %x", r, down)
			}
			if down != up && near.Next(down) != up {
				t.Fatalf("%v: Down is %x, Up %x, but behind Down comes %x", r, down, up, near.Next(down))
			}
			if side == -1 && f != down || side == 1 && f != up || side == 0 && (f != down || f != up) {
				t.Fatalf("%v: Float is %x, %d, Down %x, Up %x", r, f, side, down, up)
			}
		}
	}
}

// P4.7: none of the three falls as r rises.
func TestNothingFallsAsNumbersRise(t *testing.T) {
	var rising []*big.Rat
	for r := range numbers {
		rising = append(rising, r, neg(r))
	}
	slices.SortFunc(rising, (*big.Rat).Cmp)
	down, float, up := -inf, -inf, -inf
	for _, r := range rising {
		a := one(r)
		f, _ := near.Float(a)
		if near.Down(a) < down || f < float || near.Up(a) < up {
			t.Fatalf("%v: Down %x after %x, Float %x after %x, Up %x after %x", r, near.Down(a), down, f, float, near.Up(a), up)
		}
		down, float, up = near.Down(a), f, near.Up(a)
	}
}

// P4.7: a float told exactly, or shortest, and read again is that float.
func TestFloatsThereAndBack(t *testing.T) {
	there := func(f float64) {
		a, err := near.Exact(f)
		g, side := near.Float(a)
		if err != nil || side != 0 || g != f || near.Down(a) != f || near.Up(a) != f {
			t.Fatalf("%x: %v, and of that %x, %d", f, err, g, side)
		}
		if g, err := near.Read(near.Show(f)); err != nil || g != f {
			t.Fatalf("%x is told as %s, and that read as %x, %v", f, near.Show(f), g, err)
		}
	}
	there(0)
	there(minus0)
	for f := range floats {
		there(f)
		there(-f)
	}
}

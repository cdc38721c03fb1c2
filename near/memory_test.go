package near_test

import (
	"slices"
	"testing"

	"vertex/api"
	"vertex/near"
)

const mark = 0xabcdef

// roomy lays a list at the beginning of a longer one whose spare room is marked.
func roomy(l api.Nat) api.Nat {
	list := slices.Repeat(api.Nat{mark}, len(l)+8)
	copy(list, l)
	return list[:len(l)]
}

// R3: what is handed in isn't changed, nor its spare room, and it may share memory with itself.
func TestNothingHandedInIsChanged(t *testing.T) {
	for _, x := range []api.Rat{{}, told(true, api.Nat{5, 0}, api.Nat{0, 0}), told(true, api.Nat{7}, api.Nat{3}), told(false, api.Nat{6, 0}, api.Nat{4, 0, 0}), one(two(-1075)), one(neg(two(-900))), one(two(1024)), one(twos(3, 960)), one(two(-3000)), one(two(3000))} {
		num, den := roomy(x.Num.Mag), roomy(x.Den)
		a := told(x.Num.Neg, num, den)
		f, side := near.Float(a)
		down, up := near.Down(a), near.Up(a)
		if !slices.Equal(num[:cap(num)], roomy(x.Num.Mag)[:cap(num)]) || !slices.Equal(den[:cap(den)], roomy(x.Den)[:cap(den)]) {
			t.Errorf("%v has changed to %v", x, a)
		}
		g, again := near.Float(x)
		if !same(f, g) || side != again || !same(down, near.Down(x)) || !same(up, near.Up(x)) {
			t.Errorf("%v: not the same answers once more", x)
		}
	}
	list := api.Nat{5, 0, 7, mark, 3, 1 << 63}
	for i := range list {
		for j := range list {
			a, b := told(true, list[:i], list[j:]), told(true, slices.Clone(list[:i]), slices.Clone(list[j:]))
			f, side := near.Float(a)
			g, want := near.Float(b)
			if !same(f, g) || side != want {
				t.Errorf("%v: %x, %d, in memory of its own %x, %d", a, f, side, g, want)
			}
		}
	}
	if !slices.Equal(list, api.Nat{5, 0, 7, mark, 3, 1 << 63}) {
		t.Error("the list has changed:", list)
	}
}

// R3: the two lists of an answer share nothing, and nothing with those of another answer, spare room neither.
func TestAnswersShareNothing(t *testing.T) {
	for _, f := range []float64{0, minus0, 1, -1, 0.5, 3, -0.1, least, greatest, 0x1p64, 0x1p-64, 0x1p1000} {
		var lists []api.Nat
		for range 2 {
			a, err := near.Exact(f)
			if err != nil {
				t.Fatalf("Exact(%x): %v", f, err)
			}
			lists = append(lists, a.Num.Mag, a.Den)
		}
		for i, l := range lists {
			want := slices.Clone(l)
			for k := range l[:cap(l)] {
				l[:cap(l)][k] = mark
			}
			for j, other := range lists {
				if j != i && slices.Contains(other[:cap(other)], mark) {
					t.Fatalf("Exact(%x): lists %d and %d share memory", f, i, j)
				}
			}
			clear(l[:cap(l)])
			copy(l, want)
		}
		a, _ := near.Exact(f)
		isRat(t, "Exact once more", a, one(value(f)))
	}
}

package near_test

import (
	"math"
	"math/big"
	"slices"
	"testing"

	"vertex/api"
	"vertex/near"
)

// neighbours gives the floats that stand on both sides of a number, or twice the one that it is.
func neighbours(r *big.Rat) (down, up float64) {
	// What math/big holds for the nearest is only where the search begins.
	f, _ := r.Float64()
	for f < inf && (f == -inf || value(f).Cmp(r) < 0) {
		f = math.Nextafter(f, inf)
	}
	for f > -inf && (f == inf || value(f).Cmp(r) > 0) {
		f = math.Nextafter(f, -inf)
	}
	down, up = f, f
	if f == -inf || value(f).Cmp(r) != 0 {
		up = math.Nextafter(f, inf)
	}
	// +0 is the only nought of answers.
	return down + 0, up + 0
}

// nearest gives the neighbour of a number that is nearer, by the very words of P4.1.
func nearest(r *big.Rat) (f float64, side int) {
	down, up := neighbours(r)
	if same(down, up) {
		return down, 0
	}
	middle := sum(value(down), value(up))
	order := twice(r).Cmp(middle)
	// Bits in order are ms in order, so an even last bit is an even m.
	if order < 0 || order == 0 && math.Float64bits(down)%2 == 0 {
		return down, -1
	}
	return up, 1
}

func isFloat(t *testing.T, r api.Rat, want float64, side int) {
	t.Helper()
	if f, s := near.Float(r); !same(f, want) || s != side {
		t.Errorf("Float(%v): %x, %d, want %x, %d", r, f, s, want, side)
	}
}

// P4.1: the chapter's examples, and what stands beside them.
func TestFloat(t *testing.T) {
	top := sum(two(1024), neg(two(970)))
	for _, x := range []struct {
		r    *big.Rat
		want float64
		side int
	}{
		{big.NewRat(1, 2), 0.5, 0}, {big.NewRat(1, 3), 6004799503160661 * 0x1p-54, -1}, {big.NewRat(1, 10), 3602879701896397 * 0x1p-55, 1}, {big.NewRat(-7, 4), -1.75, 0}, {big.NewRat(3, 1), 3, 0},
		{twos(1<<53+1, 0), 1 << 53, -1}, {twos(1<<53+3, 0), 1<<53 + 4, 1}, {twos(1<<53+2, 0), 1<<53 + 2, 0}, {twos(1<<53-1, 0), 1<<53 - 1, 0},
		{two(-1074), least, 0}, {two(-1075), 0, -1}, {twos(3, -1075), 0x1p-1073, 1}, {twos(5, -1075), 0x1p-1073, -1}, {two(-1076), 0, -1}, {two(-2000), 0, -1}, {sum(two(-1075), two(-9000)), least, 1}, {twos(3, -1076), least, 1},
		{two(-1022), normal, 0}, {sum(two(-1022), neg(two(-1075))), normal, 1}, {sum(two(-1022), neg(two(-1074))), normal - least, 0}, {sum(two(-1022), twos(-3, -1075)), normal - 2*least, -1},
		{value(greatest), greatest, 0}, {top, inf, 1}, {sum(top, big.NewRat(-1, 1)), greatest, -1}, {sum(top, neg(two(-5000))), greatest, -1}, {sum(value(greatest), twos(1, -90)), greatest, -1},
		{sum(two(1024), neg(two(-9))), inf, 1}, {two(1024), inf, 1}, {sum(two(1024), two(-9)), inf, 1}, {two(1025), inf, 1}, {twos(3, 1024), inf, 1}, {two(9000), inf, 1},
		// The two have no e in common: 2^53 has an m that is even.
		{sum(two(53), neg(two(-1))), 1 << 53, 1}, {sum(two(53), neg(two(-1)), neg(two(-700))), 1<<53 - 1, -1}, {sum(two(0), neg(two(-54))), 1, 1}, {sum(two(0), two(-53)), 1, -1}, {sum(two(0), twos(3, -53)), 1 + 0x1p-51, 1},
	} {
		isFloat(t, one(x.r), x.want, x.side)
		isFloat(t, one(neg(x.r)), 0-x.want, -x.side)
	}
}

// P4.1, P4.2, R5: held against the words of the promises, on both sides of nought, however the number is told.
func TestRoundingOfManyNumbers(t *testing.T) {
	for r := range numbers {
		for _, r := range []*big.Rat{r, neg(r)} {
			down, up := neighbours(r)
			want, side := nearest(r)
			for _, a := range tellings(r) {
				isFloat(t, a, want, side)
				is(t, "Down", near.Down(a), down)
				is(t, "Up", near.Up(a), up)
			}
		}
		if t.Failed() {
			t.Fatalf("%v, or it with its sign turned", r)
		}
	}
}

// P4.2: the chapter's examples, and what stands beside them.
func TestDownAndUp(t *testing.T) {
	const third = 6004799503160661 * 0x1p-54
	for _, x := range []struct {
		r        *big.Rat
		down, up float64
	}{
		{big.NewRat(1, 3), third, 6004799503160662 * 0x1p-54}, {big.NewRat(-1, 3), -6004799503160662 * 0x1p-54, -third}, {big.NewRat(3, 2), 1.5, 1.5}, {big.NewRat(-3, 2), -1.5, -1.5}, {nothing, 0, 0},
		{two(1024), greatest, inf}, {neg(two(1024)), -inf, -greatest}, {two(1023), 0x1p1023, 0x1p1023}, {two(9000), greatest, inf}, {neg(two(9000)), -inf, -greatest},
		{value(greatest), greatest, greatest}, {value(-greatest), -greatest, -greatest}, {sum(value(greatest), two(-900)), greatest, inf}, {sum(value(-greatest), neg(two(-900))), -inf, -greatest},
		{sum(value(greatest), neg(two(-900))), math.Nextafter(greatest, 0), greatest}, {sum(value(-greatest), two(-900)), -greatest, -math.Nextafter(greatest, 0)},
		{two(-2000), 0, least}, {neg(two(-2000)), -least, 0}, {number("1e-400"), 0, least}, {number("-1e-400"), -least, 0}, {two(-1075), 0, least}, {neg(two(-1075)), -least, 0}, {two(-1074), least, least}, {neg(two(-1074)), -least, -least}, {twos(3, -1075), least, 2 * least},
		{twos(1<<53+1, 0), 1 << 53, 1<<53 + 2}, {sum(two(53), neg(two(-1))), 1<<53 - 1, 1 << 53}, {sum(two(-1022), neg(two(-1075))), normal - least, normal}, {sum(two(-1022), two(-1075)), normal, normal + least},
	} {
		is(t, "Down of "+x.r.String(), near.Down(one(x.r)), x.down)
		is(t, "Up of "+x.r.String(), near.Up(one(x.r)), x.up)
	}
}

// P4.1, P4.2: numbers that are longer than any shift or power of the layers below can be.
func TestVeryLongNumbers(t *testing.T) {
	long := append(make(api.Nat, 5000), 1)
	other := slices.Repeat(api.Nat{math.MaxUint64}, 5001)
	short := api.Nat{3}
	for _, x := range []struct {
		num, den        api.Nat
		down, float, up float64
		side            int
	}{
		{long, short, greatest, inf, inf, 1}, {short, long, 0, 0, least, -1}, {other, short, greatest, inf, inf, 1}, {short, other, 0, 0, least, -1},
		{long, long, 1, 1, 1, 0}, {other, other, 1, 1, 1, 0}, {other, long, math.Nextafter(0x1p64, 0), 0x1p64, 0x1p64, 1}, {long, other, 0x1p-64, 0x1p-64, math.Nextafter(0x1p-64, 1), -1},
		{append(make(api.Nat, 5016), 1), long, greatest, inf, inf, 1}, {append(make(api.Nat, 5015), 1<<63), long, 0x1p1023, 0x1p1023, 0x1p1023, 0}, {append(make(api.Nat, 5015), 1<<63-1), long, math.Nextafter(0x1p1023, 0), 0x1p1023, 0x1p1023, 1},
		{long, append(make(api.Nat, 5016), 1<<51), 0, 0, least, -1}, {long, append(make(api.Nat, 5016), 1<<51-1), 0, least, least, 1}, {long, append(make(api.Nat, 5016), 1<<50), least, least, least, 0},
	} {
		a, turned := told(false, x.num, x.den), told(true, x.num, x.den)
		isFloat(t, a, x.float, x.side)
		isFloat(t, turned, 0-x.float, -x.side)
		is(t, "Down", near.Down(a), x.down)
		is(t, "Up", near.Up(a), x.up)
		is(t, "Down, turned", near.Down(turned), 0-x.up)
		is(t, "Up, turned", near.Up(turned), 0-x.down)
	}
}

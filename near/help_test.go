package near_test

import (
	"math"
	"math/big"
	"math/rand"
	"slices"
	"testing"

	"vertex/api"
)

const (
	least    = math.SmallestNonzeroFloat64
	greatest = math.MaxFloat64
	normal   = 0x1p-1022 // the floats below have fewer bits
)

var (
	inf     = math.Inf(1)
	nan     = math.NaN()
	minus0  = math.Copysign(0, -1)
	nothing = new(big.Rat)
)

// two is 2^n.
func two(n int) *big.Rat {
	power := new(big.Int).Lsh(big.NewInt(1), uint(max(n, -n)))
	if n < 0 {
		return new(big.Rat).SetFrac(big.NewInt(1), power)
	}
	return new(big.Rat).SetInt(power)
}

// twos is m 2^n.
func twos(m int64, n int) *big.Rat { return new(big.Rat).Mul(big.NewRat(m, 1), two(n)) }

func sum(l ...*big.Rat) *big.Rat {
	s := new(big.Rat)
	for _, r := range l {
		s.Add(s, r)
	}
	return s
}

func neg(r *big.Rat) *big.Rat { return new(big.Rat).Neg(r) }

// number is what math/big reads in a text.
func number(s string) *big.Rat {
	r, ok := new(big.Rat).SetString(s)
	if !ok {
		panic("the test's own text is no number: " + s)
	}
	return r
}

// value is the number of a float; an infinity is the number behind the greatest.
func value(f float64) *big.Rat {
	switch {
	case math.IsInf(f, 1):
		return two(1024)
	case math.IsInf(f, -1):
		return neg(two(1024))
	}
	return new(big.Rat).SetFloat64(f)
}

// The tests hold the package against math/big; numbers go there and back limb by limb.
func limbsOf(n *big.Int) api.Nat {
	var a api.Nat
	low := new(big.Int).SetUint64(math.MaxUint64)
	for m := new(big.Int).Abs(n); m.Sign() > 0; m.Rsh(m, 64) {
		a = append(a, new(big.Int).And(m, low).Uint64())
	}
	return a
}

func fromLimbs(a api.Nat) *big.Int {
	n := new(big.Int)
	for _, limb := range slices.Backward(a) {
		n.Lsh(n, 64)
		n.Or(n, new(big.Int).SetUint64(limb))
	}
	return n
}

func told(neg bool, num, den api.Nat) api.Rat {
	return api.Rat{Num: api.Int{Neg: neg, Mag: num}, Den: den}
}

// one tells a number in its one form.
func one(r *big.Rat) api.Rat {
	return told(r.Sign() < 0, limbsOf(r.Num()), limbsOf(r.Denom()))
}

// tellings tells a number in its one form, with limbs of nought at the end, and with common factors; nought with either sign, too, and with a Den of nought.
func tellings(r *big.Rat) []api.Rat {
	a := one(r)
	all := []api.Rat{a, told(a.Num.Neg, append(slices.Clone(a.Num.Mag), 0), append(slices.Clone(a.Den), 0, 0))}
	for _, factor := range []*big.Int{big.NewInt(6), new(big.Int).Lsh(big.NewInt(3), 200)} {
		num, den := new(big.Int).Mul(r.Num(), factor), new(big.Int).Mul(r.Denom(), factor)
		all = append(all, told(a.Num.Neg, limbsOf(num), limbsOf(den)))
	}
	if r.Sign() == 0 {
		all = append(all, api.Rat{}, told(true, nil, api.Nat{3}), told(true, api.Nat{0}, api.Nat{1}), told(false, api.Nat{5}, nil), told(true, api.Nat{5, 7}, api.Nat{0, 0}))
	}
	return all
}

// same asks for the very bits, so that a nought of either sign is told from the other; all that are no number are alike.
func same(a, b float64) bool {
	return math.Float64bits(a) == math.Float64bits(b) || math.IsNaN(a) && math.IsNaN(b)
}

func is(t *testing.T, what string, got, want float64) {
	t.Helper()
	if !same(got, want) {
		t.Errorf("%s: %x, want %x", what, got, want)
	}
}

// isRat asks for the very sign and limbs, so for the one form too.
func isRat(t *testing.T, what string, got, want api.Rat) {
	t.Helper()
	if got.Num.Neg != want.Num.Neg || !slices.Equal(got.Num.Mag, want.Num.Mag) || !slices.Equal(got.Den, want.Den) {
		t.Errorf("%s: %v, want %v", what, got, want)
	}
}

// numbers goes through fractions from nought on: at floats, at the middles between them, and a hair's breadth beside both.
func numbers(yield func(r *big.Rat) bool) {
	for r := range landmarks {
		for _, hair := range []*big.Rat{nothing, two(-1300), neg(two(-1300))} {
			if x := sum(r, hair); x.Sign() >= 0 && !yield(x) {
				return
			}
		}
	}
	r := rand.New(rand.NewSource(4))
	for range 2000 {
		if !yield(new(big.Rat).SetFrac(fromLimbs(someNat(r, 20)), fromLimbs(append(someNat(r, 20), 1)))) {
			return
		}
	}
}

// landmarks goes through floats and middles: about powers of two, about nought, about the greatest, and where chance leads.
func landmarks(yield func(r *big.Rat) bool) {
	for k := -1080; k <= 1030; k++ {
		if k > -1015 && k < 960 && (k < -60 || k > 60) && k%97 != 0 {
			continue
		}
		for j := int64(-6); j <= 6; j++ {
			if !yield(sum(two(k), twos(j, k-55))) {
				return
			}
		}
	}
	for j := range int64(200) {
		if !yield(twos(j, -1076)) || !yield(sum(two(1024), twos(j-100, 969))) {
			return
		}
	}
	r := rand.New(rand.NewSource(5))
	for range 3000 {
		// Odd, so halved in its last place it is the middle of two floats.
		odd := r.Int63n(1<<53)<<1 | 1
		if !yield(twos(odd, r.Intn(2046)-1075)) {
			return
		}
	}
}

// someNat makes a number of n limbs at most, many of them at an edge.
func someNat(r *rand.Rand, n int) api.Nat {
	a := make(api.Nat, r.Intn(n+1))
	for i := range a {
		a[i] = []uint64{0, 1, 1 << 63, math.MaxUint64, r.Uint64(), r.Uint64() >> r.Intn(64)}[r.Intn(6)]
	}
	return a
}

// floats goes through floats above nought: all about the ends of the row and about powers of two and ten, and many by chance.
func floats(yield func(f float64) bool) {
	var marks []float64
	for k := -1074; k <= 1023; k++ {
		marks = append(marks, math.Ldexp(1, k))
	}
	for k := -323; k <= 308; k++ {
		f, _ := number("1e" + big.NewInt(int64(k)).String()).Float64()
		marks = append(marks, f)
	}
	for _, f := range append(marks, least, normal, greatest, 1<<53) {
		for _, g := range []float64{math.Nextafter(f, 0), f, math.Nextafter(f, inf)} {
			if g > 0 && g < inf && !yield(g) {
				return
			}
		}
	}
	r := rand.New(rand.NewSource(6))
	for i := range 6000 {
		f := math.Abs(math.Float64frombits(r.Uint64()))
		switch {
		case i%3 == 1:
			// Few digits.
			f = math.Ldexp(float64(1+r.Intn(1000)), r.Intn(80)-40)
		case i%3 == 2:
			// Few bits, below the floats of 53 bits.
			f = math.Float64frombits(r.Uint64() >> (12 + r.Intn(52)))
		}
		if f > 0 && f < inf && !yield(f) {
			return
		}
	}
}

// The tests of many numbers tell nothing of a kind that is not among them.
func TestNumbersAreOfAllKinds(t *testing.T) {
	exact, ties, low, high := 0, 0, 0, 0
	for r := range numbers {
		down, up := neighbours(r)
		middle := sum(value(down), value(up))
		switch {
		case same(down, up):
			exact++
		case middle.Cmp(twice(r)) == 0:
			ties++
		}
		if up < normal {
			low++
		}
		if up == inf {
			high++
		}
	}
	if exact < 2000 || ties < 2000 || low < 2000 || high < 500 {
		t.Errorf("only %d numbers are floats, %d in the middle of two, %d among the floats of fewer bits, %d beyond all", exact, ties, low, high)
	}
}

func twice(r *big.Rat) *big.Rat { return sum(r, r) }

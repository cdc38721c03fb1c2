package rat_test

import (
	"math/big"
	"math/rand"
	"slices"
	"testing"

	"vertex/api"
	"vertex/rat"
)

const (
	top  = 1<<64 - 1 // the greatest limb
	half = 1 << 63
)

// by tells a fraction of two words as it stands.
func by(n int64, d uint64) api.Rat {
	return api.Rat{Num: whole(n), Den: api.Nat{d}}
}

// whole tells a word as it stands, nought with a limb.
func whole(n int64) api.Int {
	if n < 0 {
		return api.Int{Neg: true, Mag: api.Nat{-uint64(n)}}
	}
	return api.Int{Mag: api.Nat{uint64(n)}}
}

// limbs tells a fraction by its two lists.
func limbs(neg bool, num, den api.Nat) api.Rat {
	return api.Rat{Num: api.Int{Neg: neg, Mag: num}, Den: den}
}

// The tests hold the package against math/big; numbers go there and back limb by limb.
func natToBig(a api.Nat) *big.Int {
	n := new(big.Int)
	for _, limb := range slices.Backward(a) {
		n.Lsh(n, 64)
		n.Or(n, new(big.Int).SetUint64(limb))
	}
	return n
}

func natFromBig(n *big.Int) api.Nat {
	var a api.Nat
	low := new(big.Int).SetUint64(top)
	for m := new(big.Int).Abs(n); m.Sign() > 0; m.Rsh(m, 64) {
		a = append(a, new(big.Int).And(m, low).Uint64())
	}
	return a
}

func intToBig(a api.Int) *big.Int {
	n := natToBig(a.Mag)
	if a.Neg {
		n.Neg(n)
	}
	return n
}

func intFromBig(n *big.Int) api.Int {
	return api.Int{Neg: n.Sign() < 0, Mag: natFromBig(n)}
}

func toBig(a api.Rat) *big.Rat {
	den := natToBig(a.Den)
	if den.Sign() == 0 {
		return new(big.Rat)
	}
	return new(big.Rat).SetFrac(intToBig(a.Num), den)
}

func fromBig(n *big.Rat) api.Rat {
	return api.Rat{Num: intFromBig(n.Num()), Den: natFromBig(n.Denom())}
}

func sameInt(a, b api.Int) bool { return a.Neg == b.Neg && slices.Equal(a.Mag, b.Mag) }

func same(a, b api.Rat) bool { return sameInt(a.Num, b.Num) && slices.Equal(a.Den, b.Den) }

// is asks for the very sign and limbs, so for the one form too.
func is(t *testing.T, what string, got, want api.Rat) {
	t.Helper()
	if !same(got, want) {
		t.Errorf("%s: %v, want %v", what, got, want)
	}
}

func isInt(t *testing.T, what string, got, want api.Int) {
	t.Helper()
	if !sameInt(got, want) {
		t.Errorf("%s: %v, want %v", what, got, want)
	}
}

func isBig(t *testing.T, what string, got api.Rat, want *big.Rat) {
	t.Helper()
	is(t, what, got, fromBig(want))
}

// tells asks for the one form of the number that math/big reads in a text.
func tells(t *testing.T, what string, got api.Rat, want string) {
	t.Helper()
	n, ok := new(big.Rat).SetString(want)
	if !ok {
		t.Fatalf("the test's own %q is no number", want)
	}
	isBig(t, what, got, n)
}

// fails asks for the very error, and for the zero value beside it.
func fails(t *testing.T, what string, got api.Rat, err, want error) {
	t.Helper()
	if err != want {
		t.Errorf("%s: %v, want %v", what, err, want)
	}
	isZero(t, what, got)
}

// isZero asks for the zero value, as it stands beside an error.
func isZero(t *testing.T, what string, got api.Rat) {
	t.Helper()
	if got.Num.Neg || got.Num.Mag != nil || got.Den != nil {
		t.Errorf("%s: %v, want the zero value", what, got)
	}
}

// someNat makes a number of n limbs at most, many of them at an edge, some at the end nought.
func someNat(r *rand.Rand, n int) api.Nat {
	a := make(api.Nat, r.Intn(n+1))
	for i := range a {
		switch r.Intn(8) {
		case 0, 1:
			a[i] = 0
		case 2:
			a[i] = 1
		case 3:
			a[i] = half
		case 4:
			a[i] = top
		case 5:
			a[i] = uint64(r.Intn(1000))
		default:
			a[i] = r.Uint64()
		}
	}
	return a
}

// some makes a fraction of n limbs at most on either side of nought, half of them with a common divisor.
func some(r *rand.Rand, n int) api.Rat {
	a := limbs(r.Intn(2) == 0, someNat(r, n), someNat(r, n))
	if r.Intn(2) == 0 {
		return a
	}
	common := natToBig(someNat(r, 2))
	a.Num.Mag = natFromBig(new(big.Int).Mul(common, natToBig(a.Num.Mag)))
	a.Den = natFromBig(new(big.Int).Mul(common, natToBig(a.Den)))
	return a
}

// pairs goes through couples of numbers: all of the small ones with one another, then chance ones of few and of many limbs.
func pairs(yield func(a, b api.Rat) bool) {
	for _, a := range edges() {
		for _, b := range edges() {
			if !yield(a, b) {
				return
			}
		}
	}
	r := rand.New(rand.NewSource(13))
	for _, size := range [][3]int{{3000, 1, 1}, {2000, 2, 3}, {500, 6, 4}, {500, 4, 6}, {60, 30, 40}} {
		for range size[0] {
			if !yield(some(r, size[1]), some(r, size[2])) {
				return
			}
		}
	}
}

// edges are numbers about nought and about the ends of words, each below and above, and each told in its one form and otherwise.
func edges() []api.Rat {
	var all []api.Rat
	for _, x := range []struct{ num, den api.Nat }{
		{nil, api.Nat{1}}, {nil, nil}, {api.Nat{5}, nil}, {nil, api.Nat{7}}, {api.Nat{1}, api.Nat{1}}, {api.Nat{6}, api.Nat{4}},
		{api.Nat{1}, api.Nat{3}}, {api.Nat{2}, api.Nat{6}}, {api.Nat{7}, api.Nat{2}}, {api.Nat{8}, api.Nat{4}}, {api.Nat{half}, api.Nat{half - 1}},
		{api.Nat{top}, api.Nat{half}}, {api.Nat{half}, api.Nat{top}}, {api.Nat{0, 1}, api.Nat{2}}, {api.Nat{1}, api.Nat{0, 1}}, {api.Nat{top, top}, api.Nat{top, 1}}, {api.Nat{0, 0, 3}, api.Nat{0, 6}},
	} {
		for _, neg := range []bool{false, true} {
			all = append(all, limbs(neg, x.num, x.den), limbs(neg, append(slices.Clone(x.num), 0, 0), append(slices.Clone(x.den), 0)))
		}
	}
	return all
}

func TestPairsAreToldInManyWays(t *testing.T) {
	long, untidy, common, noDen := 0, 0, 0, 0
	for a, b := range pairs {
		x, y := rat.Norm(a), rat.Norm(b)
		if len(x.Den) > 8 && len(y.Den) > 8 && x.Num.Neg != y.Num.Neg {
			long++
		}
		if n := len(a.Den); n > 0 && a.Den[n-1] == 0 {
			untidy++
		}
		if natToBig(a.Den).Cmp(natToBig(x.Den)) > 0 && natToBig(x.Num.Mag).Sign() > 0 {
			common++
		}
		if natToBig(a.Den).Sign() == 0 && natToBig(a.Num.Mag).Sign() > 0 {
			noDen++
		}
	}
	if long < 5 || untidy < 500 || common < 500 || noDen < 200 {
		t.Errorf("%d long pairs on both sides, %d with limbs of nought at the end, %d with a common divisor, %d with a Den of nought", long, untidy, common, noDen)
	}
}

package whole_test

import (
	"math/big"
	"math/rand"
	"slices"
	"testing"

	"vertex/api"
	"vertex/whole"
)

const (
	top  = 1<<64 - 1 // the greatest limb
	half = 1 << 63
)

// The tests hold the package against math/big; numbers go there and back limb by limb.
func toBig(a api.Int) *big.Int {
	n := new(big.Int)
	for _, limb := range slices.Backward(a.Mag) {
		n.Lsh(n, 64)
		n.Or(n, new(big.Int).SetUint64(limb))
	}
	if a.Neg {
		n.Neg(n)
	}
	return n
}

func fromBig(n *big.Int) api.Int {
	a := api.Int{Neg: n.Sign() < 0}
	low := new(big.Int).SetUint64(top)
	for m := new(big.Int).Abs(n); m.Sign() > 0; m.Rsh(m, 64) {
		a.Mag = append(a.Mag, new(big.Int).And(m, low).Uint64())
	}
	return a
}

func dec(t *testing.T, s string) api.Int {
	t.Helper()
	n, ok := new(big.Int).SetString(s, 10)
	if !ok {
		t.Fatalf("the test's own %q is no number", s)
	}
	return fromBig(n)
}

func above(limbs ...uint64) api.Int { return api.Int{Mag: limbs} }

func below(limbs ...uint64) api.Int { return api.Int{Neg: true, Mag: limbs} }

func same(a, b api.Int) bool { return a.Neg == b.Neg && slices.Equal(a.Mag, b.Mag) }

// is asks for the very sign and limbs, so for the one form too.
func is(t *testing.T, what string, got, want api.Int) {
	t.Helper()
	if !same(got, want) {
		t.Errorf("%s: %v, want %v", what, got, want)
	}
}

func isBig(t *testing.T, what string, got api.Int, want *big.Int) {
	t.Helper()
	is(t, what, got, fromBig(want))
}

// isZero asks for the zero value, as it stands beside an error.
func isZero(t *testing.T, what string, got api.Int) {
	t.Helper()
	if got.Neg || got.Mag != nil {
		t.Errorf("%s: %v, want the zero value", what, got)
	}
}

// some makes a number of n limbs at most, many of them at an edge, some at the end nought, on either side of nought.
func some(r *rand.Rand, n int) api.Int {
	a := api.Int{Neg: r.Intn(2) == 0, Mag: make(api.Nat, r.Intn(n+1))}
	for i := range a.Mag {
		switch r.Intn(8) {
		case 0, 1:
			a.Mag[i] = 0
		case 2:
			a.Mag[i] = 1
		case 3:
			a.Mag[i] = half
		case 4:
			a.Mag[i] = top
		case 5:
			a.Mag[i] = uint64(r.Intn(1000))
		default:
			a.Mag[i] = r.Uint64()
		}
	}
	return a
}

// pairs goes through couples of numbers: all of the small ones with one another, then chance ones of few and of many limbs.
func pairs(yield func(a, b api.Int) bool) {
	for _, a := range edges() {
		for _, b := range edges() {
			if !yield(a, b) {
				return
			}
		}
	}
	r := rand.New(rand.NewSource(11))
	for _, size := range [][3]int{{3000, 2, 2}, {3000, 6, 4}, {3000, 4, 6}, {300, 30, 20}, {40, 200, 100}} {
		for range size[0] {
			if !yield(some(r, size[1]), some(r, size[2])) {
				return
			}
		}
	}
}

// edges are numbers about nought and about the ends of words, each below and above, and each told with limbs of nought, too.
func edges() []api.Int {
	var all []api.Int
	for _, mag := range []api.Nat{nil, {1}, {2}, {3}, {7}, {half - 1}, {half}, {half + 1}, {top}, {0, 1}, {1, 1}, {top, top}, {0, 0, 1}} {
		for _, neg := range []bool{false, true} {
			all = append(all, api.Int{Neg: neg, Mag: mag}, api.Int{Neg: neg, Mag: append(slices.Clone(mag), 0, 0)})
		}
	}
	return all
}

func TestPairsAreToldInManyWays(t *testing.T) {
	long, untidy, signed := 0, 0, 0
	for a, b := range pairs {
		if len(whole.Abs(a)) > 50 && len(whole.Abs(b)) > 50 && a.Neg != b.Neg {
			long++
		}
		if len(whole.Abs(a)) < len(a.Mag) {
			untidy++
		}
		if len(whole.Abs(a)) == 0 && a.Neg {
			signed++
		}
	}
	if long < 5 || untidy < 500 || signed < 100 {
		t.Errorf("%d long pairs on both sides, %d with limbs of nought at the end, %d of nought with Neg", long, untidy, signed)
	}
}

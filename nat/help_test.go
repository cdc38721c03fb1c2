package nat_test

import (
	"math/big"
	"math/rand"
	"slices"
	"testing"

	"vertex/api"
	"vertex/nat"
)

const (
	top  = 1<<64 - 1 // the greatest limb
	half = 1 << 63
)

// The tests hold the package against math/big; numbers go there and back limb by limb.
func toBig(a api.Nat) *big.Int {
	n := new(big.Int)
	for _, limb := range slices.Backward(a) {
		n.Lsh(n, 64)
		n.Or(n, new(big.Int).SetUint64(limb))
	}
	return n
}

func fromBig(n *big.Int) api.Nat {
	var a api.Nat
	low := new(big.Int).SetUint64(top)
	for m := new(big.Int).Set(n); m.Sign() > 0; m.Rsh(m, 64) {
		a = append(a, new(big.Int).And(m, low).Uint64())
	}
	return a
}

func dec(t *testing.T, s string) api.Nat {
	t.Helper()
	n, ok := new(big.Int).SetString(s, 10)
	if !ok {
		t.Fatalf("the test's own %q is no number", s)
	}
	return fromBig(n)
}

// power gives 2^n.
func power(n uint) api.Nat { return fromBig(new(big.Int).Lsh(big.NewInt(1), n)) }

// is asks for the very limbs, so for the one form too.
func is(t *testing.T, what string, got, want api.Nat) {
	t.Helper()
	if !slices.Equal(got, want) {
		t.Errorf("%s: %v, want %v", what, got, want)
	}
}

func isBig(t *testing.T, what string, got api.Nat, want *big.Int) {
	t.Helper()
	is(t, what, got, fromBig(want))
}

// fails asks for the very error and for no number beside it.
func fails(t *testing.T, what string, got api.Nat, err, want error) {
	t.Helper()
	if err != want || len(got) > 0 {
		t.Errorf("%s: %v %v, want no limbs and %v", what, got, err, want)
	}
}

func works(t *testing.T, what string, got api.Nat, err error, want api.Nat) {
	t.Helper()
	if err != nil {
		t.Errorf("%s: %v", what, err)
	}
	is(t, what, got, want)
}

// padded tells the same number with n limbs of nought at its end.
func padded(a api.Nat, n int) api.Nat {
	return append(slices.Clone(a), make(api.Nat, n)...)
}

// some makes a number of n limbs at most, many of them at an edge, some at the end nought.
func some(r *rand.Rand, n int) api.Nat {
	a := make(api.Nat, r.Intn(n+1))
	for i := range a {
		switch r.Intn(8) {
		case 0, 1:
			a[i] = 0
		case 2:
			a[i] = 1
		case 3:
			a[i] = half
		case 4:
			a[i] = top
		case 5:
			a[i] = uint64(r.Intn(1000))
		default:
			a[i] = r.Uint64()
		}
	}
	return a
}

// pairs goes through couples of numbers, small and of many limbs, each told in whatever way.
func pairs(yield func(a, b api.Nat) bool) {
	r := rand.New(rand.NewSource(7))
	for _, size := range [][3]int{{4000, 3, 3}, {4000, 7, 4}, {4000, 4, 7}, {500, 30, 20}, {60, 400, 150}, {60, 300, 300}} {
		for range size[0] {
			if !yield(some(r, size[1]), some(r, size[2])) {
				return
			}
		}
	}
}

func TestPairsAreToldInManyWays(t *testing.T) {
	long, untidy := 0, 0
	for a, b := range pairs {
		if len(nat.Norm(a)) > 100 && len(nat.Norm(b)) > 100 {
			long++
		}
		if len(nat.Norm(a)) < len(a) {
			untidy++
		}
	}
	if long < 10 || untidy < 1000 {
		t.Errorf("%d long pairs, %d with limbs of nought at the end", long, untidy)
	}
}

package nat_test

import (
	"math/big"
	"testing"

	"vertex/api"
	"vertex/nat"
)

// P1.6
func TestGcd(t *testing.T) {
	of := nat.Of
	for _, x := range []struct {
		l    []api.Nat
		want api.Nat
	}{
		{nil, nil},
		{[]api.Nat{nil}, nil},
		{[]api.Nat{nil, {0}, {0, 0}}, nil},
		{[]api.Nat{{6, 0}}, api.Nat{6}},
		{[]api.Nat{nil, of(6)}, api.Nat{6}},
		{[]api.Nat{of(6), {0}}, api.Nat{6}},
		{[]api.Nat{of(12), of(18), of(8)}, api.Nat{2}},
		{[]api.Nat{of(12), nil, of(18), {0, 0}, {6, 0}}, api.Nat{6}},
		{[]api.Nat{of(7), of(7)}, api.Nat{7}},
		{[]api.Nat{of(1), {5, 5, 5}}, api.Nat{1}},
		{[]api.Nat{of(35), of(64)}, api.Nat{1}},
		{[]api.Nat{power(200), power(130), power(300)}, power(130)},
		{[]api.Nat{power(64), of(48)}, api.Nat{16}},
		{[]api.Nat{{0, 0, 15}, {0, 0, 0, 25}}, api.Nat{0, 0, 5}},
		{[]api.Nat{{top, top}, {top}}, api.Nat{top}},
		{[]api.Nat{{1, 1, 1}, {1, 1, 1, 0}}, api.Nat{1, 1, 1}},
	} {
		is(t, "Gcd", nat.Gcd(x.l...), x.want)
	}
}

// P1.6
func TestGcdOfMany(t *testing.T) {
	last := api.Nat(nil)
	for a, b := range pairs {
		want := new(big.Int).GCD(nil, nil, toBig(a), toBig(b))
		isBig(t, "Gcd", nat.Gcd(a, b), want)
		isBig(t, "Gcd turned round", nat.Gcd(b, a), want)
		isBig(t, "Gcd of three", nat.Gcd(a, last, b), want.GCD(nil, nil, want, toBig(last)))
		last = b
	}
}

// P1.6: a factor in common, of many limbs or few, even or odd.
func TestGcdOfMultiples(t *testing.T) {
	factors := []api.Nat{{2}, {3}, {top}, power(64), power(77), {5, 0, 7}, {0, 12, 0, 3}, dec(t, "100000000000000000000000000000000000000000000")}
	for a, b := range pairs {
		if len(a) > 30 || len(b) > 30 {
			continue
		}
		for _, f := range factors {
			x, y := new(big.Int).Mul(toBig(a), toBig(f)), new(big.Int).Mul(toBig(b), toBig(f))
			isBig(t, "Gcd", nat.Gcd(fromBig(x), fromBig(y)), new(big.Int).GCD(nil, nil, x, y))
		}
	}
}

// P1.6: neighbours among Fibonacci's numbers take the most steps.
func TestGcdOfNeighbours(t *testing.T) {
	a, b := big.NewInt(0), big.NewInt(1)
	for i := range 1500 {
		want := nat.Of(1)
		is(t, "Gcd", nat.Gcd(fromBig(a), fromBig(b)), want)
		if i%2 == 0 {
			f := new(big.Int).Lsh(big.NewInt(9), uint(i))
			x, y := new(big.Int).Mul(a, f), new(big.Int).Mul(b, f)
			isBig(t, "Gcd", nat.Gcd(fromBig(x), fromBig(y)), f)
		}
		a, b = b, new(big.Int).Add(a, b)
	}
}

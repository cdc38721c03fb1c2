package nat_test

import (
	"math/big"
	"math/rand"
	"testing"

	"vertex/api"
	"vertex/nat"
)

// divides holds an answer of DivMod against math/big.
func divides(t *testing.T, a, b api.Nat) {
	t.Helper()
	q, r, err := nat.DivMod(a, b)
	if err != nil {
		t.Fatalf("DivMod(%v, %v): %v", a, b, err)
	}
	wantQ, wantR := new(big.Int).QuoRem(toBig(a), toBig(b), new(big.Int))
	isBig(t, "DivMod's quotient", q, wantQ)
	isBig(t, "DivMod's rest", r, wantR)
}

// P1.5
func TestDivMod(t *testing.T) {
	for _, x := range []struct{ a, b, q, r api.Nat }{
		{api.Nat{17}, api.Nat{5}, api.Nat{3}, api.Nat{2}},
		{api.Nat{0, 0, 1}, api.Nat{top}, api.Nat{1, 1}, api.Nat{1}},
		{nil, api.Nat{5}, nil, nil},
		{api.Nat{0, 0}, api.Nat{5, 5}, nil, nil},
		{api.Nat{4, 0}, api.Nat{5, 0}, nil, api.Nat{4}},
		{api.Nat{5}, api.Nat{5, 0}, api.Nat{1}, nil},
		{api.Nat{5, 6}, api.Nat{6, 6}, nil, api.Nat{5, 6}},
		{api.Nat{6, 6}, api.Nat{6, 6, 0}, api.Nat{1}, nil},
		{api.Nat{5, 6, 7}, api.Nat{1}, api.Nat{5, 6, 7}, nil},
		{api.Nat{5, 6, 7}, api.Nat{0, 1}, api.Nat{6, 7}, api.Nat{5}},
	} {
		q, r, err := nat.DivMod(x.a, x.b)
		works(t, "DivMod's quotient", q, err, x.q)
		works(t, "DivMod's rest", r, err, x.r)
	}
}

// P1.5
func TestDivModByNought(t *testing.T) {
	for _, a := range []api.Nat{nil, {5}, {0}, {1, 2, 3}} {
		for _, b := range []api.Nat{nil, {}, {0}, {0, 0, 0}} {
			q, r, err := nat.DivMod(a, b)
			fails(t, "DivMod's quotient", q, err, api.ErrDivide)
			fails(t, "DivMod's rest", r, err, api.ErrDivide)
		}
	}
}

// P1.5: where the trial of a limb is too great by one or two, or as great as a limb can be.
func TestDivModTrials(t *testing.T) {
	for _, x := range [][2]api.Nat{
		{{0, 0, half, half - 1}, {1, 0, half}},
		{{0, top - 1, half}, {top, half}},
		{{3, 0, half}, {1, 0, 1 << 61}},
		{{0, 0, 0, half}, {top, 0, half}},
		{{0, 0, half, 0}, {1, half}},
		{{top, top, top, top}, {top, top}},
		{{0, 0, top - 1, top}, {top, top}},
		{{top, top, half - 1, half}, {top, half, half}},
		{{0, 0, 0, 0, 1}, {top, top, 1}},
	} {
		divides(t, x[0], x[1])
	}
	r := rand.New(rand.NewSource(5))
	edges := []uint64{0, 1, 2, half - 1, half, half + 1, top - 1, top}
	edge := func(n int) api.Nat {
		a := make(api.Nat, n)
		for i := range a {
			a[i] = edges[r.Intn(len(edges))]
		}
		return a
	}
	for range 30000 {
		b := edge(2 + r.Intn(3))
		b[len(b)-1] |= 1
		divides(t, edge(len(b)+r.Intn(4)), b)
	}
}

// P1.5
func TestDivModMany(t *testing.T) {
	for a, b := range pairs {
		if len(nat.Norm(b)) > 0 {
			divides(t, a, b)
		}
	}
}

// P1.5: at a multiple, one below it and one above it.
func TestDivModAtMultiples(t *testing.T) {
	one := big.NewInt(1)
	for a, b := range pairs {
		if len(nat.Norm(a)) == 0 || len(nat.Norm(b)) == 0 {
			continue
		}
		product := new(big.Int).Mul(toBig(a), toBig(b))
		divides(t, fromBig(product), b)
		divides(t, fromBig(new(big.Int).Sub(product, one)), b)
		divides(t, fromBig(new(big.Int).Add(product, one)), b)
	}
}

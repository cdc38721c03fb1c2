package nat_test

import (
	"math/big"
	"testing"

	"vertex/api"
	"vertex/nat"
)

// P1.3
func TestAdd(t *testing.T) {
	for _, x := range []struct{ a, b, want api.Nat }{
		{nil, nil, nil},
		{api.Nat{0}, api.Nat{0, 0}, nil},
		{api.Nat{2}, api.Nat{3}, api.Nat{5}},
		{api.Nat{top}, api.Nat{1}, api.Nat{0, 1}},
		{api.Nat{top}, api.Nat{top}, api.Nat{top - 1, 1}},
		{api.Nat{1}, api.Nat{top, top, top}, api.Nat{0, 0, 0, 1}},
		{api.Nat{top, top, 7}, api.Nat{1, 0}, api.Nat{0, 0, 8}},
		{api.Nat{5, 0, 0}, nil, api.Nat{5}},
	} {
		is(t, "Add", nat.Add(x.a, x.b), x.want)
		is(t, "Add turned round", nat.Add(x.b, x.a), x.want)
	}
	for a, b := range pairs {
		isBig(t, "Add", nat.Add(a, b), new(big.Int).Add(toBig(a), toBig(b)))
	}
}

// P1.3
func TestSub(t *testing.T) {
	for _, x := range []struct{ a, b, want api.Nat }{
		{nil, api.Nat{0}, nil},
		{api.Nat{5}, api.Nat{3}, api.Nat{2}},
		{api.Nat{5, 0}, api.Nat{5, 0, 0}, nil},
		{api.Nat{0, 1}, api.Nat{1}, api.Nat{top}},
		{api.Nat{0, 0, 0, 1}, api.Nat{1}, api.Nat{top, top, top}},
		{api.Nat{7, 9}, api.Nat{8, 8}, api.Nat{top}},
	} {
		d, err := nat.Sub(x.a, x.b)
		works(t, "Sub", d, err, x.want)
	}
	for a, b := range pairs {
		d, err := nat.Sub(a, b)
		if nat.Cmp(a, b) < 0 {
			fails(t, "Sub", d, err, api.ErrBelow)
			d, err = nat.Sub(b, a)
		}
		want := new(big.Int).Sub(toBig(a), toBig(b))
		works(t, "Sub", d, err, fromBig(want.Abs(want)))
	}
}

// P1.3
func TestSubBelow(t *testing.T) {
	for _, x := range [][2]api.Nat{
		{{3}, {5}},
		{nil, {1}},
		{{0, 0}, {1}},
		{{top}, {0, 1}},
		{{top, 0, 0}, {0, 1}},
		{{0, 1}, {1, 1}},
	} {
		d, err := nat.Sub(x[0], x[1])
		fails(t, "Sub", d, err, api.ErrBelow)
	}
}

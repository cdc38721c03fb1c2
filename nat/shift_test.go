package nat_test

import (
	"math"
	"math/big"
	"testing"

	"vertex/api"
	"vertex/nat"
)

var counts = []int{0, 1, 2, 31, 63, 64, 65, 127, 128, 129, 1000, 65535, 65536}

// P1.7
func TestShl(t *testing.T) {
	for _, x := range []struct {
		a    api.Nat
		n    int
		want api.Nat
	}{
		{api.Nat{3}, 65, api.Nat{0, 6}},
		{api.Nat{3, 0}, 0, api.Nat{3}},
		{api.Nat{half}, 1, api.Nat{0, 1}},
		{api.Nat{top, top, 0}, 4, api.Nat{top - 15, top, 15}},
		{nil, 65536, nil},
		{api.Nat{0, 0}, 7, nil},
		{api.Nat{1}, 65536, power(65536)},
	} {
		up, err := nat.Shl(x.a, x.n)
		works(t, "Shl", up, err, x.want)
	}
	for a, b := range pairs {
		for _, n := range counts[:len(counts)-2] {
			up, err := nat.Shl(a, n)
			works(t, "Shl", up, err, fromBig(new(big.Int).Lsh(toBig(a), uint(n))))
		}
		if len(b) > 100 {
			up, err := nat.Shl(b, api.MaxShift)
			works(t, "Shl by the most", up, err, fromBig(new(big.Int).Lsh(toBig(b), api.MaxShift)))
		}
	}
}

// P1.7
func TestShr(t *testing.T) {
	for _, x := range []struct {
		a    api.Nat
		n    int
		want api.Nat
	}{
		{api.Nat{0, 6}, 65, api.Nat{3}},
		{api.Nat{5}, 1 << 40, nil},
		{api.Nat{5}, math.MaxInt, nil},
		{nil, math.MaxInt, nil},
		{api.Nat{5}, 2, api.Nat{1}},
		{api.Nat{5}, 3, nil},
		{api.Nat{5, 0}, 0, api.Nat{5}},
		{api.Nat{5, 7}, 64, api.Nat{7}},
		{api.Nat{5, 7, 0, 0}, 128, nil},
		{api.Nat{top, 1}, 1, api.Nat{top}},
		{power(65537), 65537, api.Nat{1}},
		{power(200000), 131073, power(68927)},
	} {
		down, err := nat.Shr(x.a, x.n)
		works(t, "Shr", down, err, x.want)
	}
	for a := range pairs {
		for _, n := range append(counts, nat.Bits(a), nat.Bits(a)+1, max(nat.Bits(a)-1, 0)) {
			down, err := nat.Shr(a, n)
			works(t, "Shr", down, err, fromBig(new(big.Int).Rsh(toBig(a), uint(n))))
		}
	}
}

// P1.7
func TestShiftErrors(t *testing.T) {
	for _, a := range []api.Nat{nil, {0}, {1}, {1, 2, 3}} {
		for _, x := range []struct {
			n    int
			want error
		}{{-1, api.ErrArg}, {math.MinInt, api.ErrArg}, {65537, api.ErrLong}, {math.MaxInt, api.ErrLong}} {
			up, err := nat.Shl(a, x.n)
			fails(t, "Shl", up, err, x.want)
		}
		for _, n := range []int{-1, -64, math.MinInt} {
			down, err := nat.Shr(a, n)
			fails(t, "Shr", down, err, api.ErrArg)
		}
	}
}

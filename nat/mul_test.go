package nat_test

import (
	"math"
	"math/big"
	"testing"

	"vertex/api"
	"vertex/nat"
)

// P1.4
func TestMul(t *testing.T) {
	for _, x := range []struct{ a, b, want api.Nat }{
		{nil, nil, nil},
		{api.Nat{0, 0}, api.Nat{7, 7}, nil},
		{api.Nat{6}, api.Nat{7, 0}, api.Nat{42}},
		{api.Nat{1}, api.Nat{3, 4, 5}, api.Nat{3, 4, 5}},
		{api.Nat{top}, api.Nat{top}, api.Nat{1, top - 1}},
		{api.Nat{top, top}, api.Nat{top, top}, api.Nat{1, 0, top - 1, top}},
		{api.Nat{0, 1}, api.Nat{0, 0, 1}, api.Nat{0, 0, 0, 1}},
	} {
		is(t, "Mul", nat.Mul(x.a, x.b), x.want)
		is(t, "Mul turned round", nat.Mul(x.b, x.a), x.want)
	}
	for a, b := range pairs {
		isBig(t, "Mul", nat.Mul(a, b), new(big.Int).Mul(toBig(a), toBig(b)))
		if len(a) < 10 {
			isBig(t, "Mul by itself", nat.Mul(a, a), new(big.Int).Mul(toBig(a), toBig(a)))
		}
	}
}

// P1.8
func TestPow(t *testing.T) {
	for _, x := range []struct {
		a    api.Nat
		n    int
		want api.Nat
	}{
		{api.Nat{10}, 20, dec(t, "100000000000000000000")},
		{nil, 0, api.Nat{1}},
		{api.Nat{0, 0}, 0, api.Nat{1}},
		{nil, 1, nil},
		{nil, 1 << 40, nil},
		{api.Nat{0}, math.MaxInt, nil},
		{api.Nat{1}, 131072, api.Nat{1}},
		{api.Nat{7, 0}, 1, api.Nat{7}},
		{api.Nat{0, 1}, 3, api.Nat{0, 0, 0, 1}},
		{api.Nat{2}, 65536, power(65536)},
		{power(131072), 0, api.Nat{1}},
		{power(131071), 1, power(131071)},
		{power(65535), 2, power(131070)},
	} {
		p, err := nat.Pow(x.a, x.n)
		works(t, "Pow", p, err, x.want)
	}
	for _, base := range []uint64{1, 2, 3, 10, 255, half, top} {
		for n := range 40 {
			p, err := nat.Pow(nat.Of(base), n)
			want := new(big.Int).Exp(toBig(nat.Of(base)), big.NewInt(int64(n)), nil)
			works(t, "Pow", p, err, fromBig(want))
		}
	}
	p, err := nat.Pow(api.Nat{10}, 32768)
	works(t, "Pow(10, 32768)", p, err, fromBig(new(big.Int).Exp(big.NewInt(10), big.NewInt(32768), nil)))
}

// P1.8
func TestPowErrors(t *testing.T) {
	for _, x := range []struct {
		a    api.Nat
		n    int
		want error
	}{
		{api.Nat{2}, -1, api.ErrArg},
		{nil, -1, api.ErrArg},
		{power(131072), -1, api.ErrArg},
		{api.Nat{1}, math.MinInt, api.ErrArg},
		{api.Nat{1}, 131073, api.ErrLong},
		{api.Nat{1, 0}, 131073, api.ErrLong},
		{api.Nat{2}, 65537, api.ErrLong},
		{api.Nat{10}, 32769, api.ErrLong},
		{power(131072), 1, api.ErrLong},
		{power(65536), 2, api.ErrLong},
		{api.Nat{2}, math.MaxInt, api.ErrLong},
		{power(64), math.MaxInt, api.ErrLong},
		{power(63), 1 << 58, api.ErrLong}, // 64 times 2^58 is nought to a word
		{power(3), 1 << 62, api.ErrLong},
	} {
		p, err := nat.Pow(x.a, x.n)
		fails(t, "Pow", p, err, x.want)
	}
}

// P1.9
func TestChoose(t *testing.T) {
	for _, x := range []struct {
		n, k int
		want string
	}{
		{0, 0, "1"}, {0, 1, "0"}, {1, 0, "1"}, {1, 1, "1"}, {2, 3, "0"}, {5, 2, "10"}, {5, 3, "10"}, {5, 5, "1"},
		{70, 35, "112186277816662845432"}, {4096, 0, "1"}, {4096, 1, "4096"}, {4096, 4095, "4096"}, {4096, 4096, "1"},
		{4096, 4097, "0"}, {4096, math.MaxInt, "0"}, {3, math.MaxInt, "0"},
	} {
		c, err := nat.Choose(x.n, x.k)
		works(t, "Choose", c, err, dec(t, x.want))
	}
	for _, n := range []int{6, 7, 63, 64, 67, 68, 129, 1000, 4095, 4096} {
		for k := 0; k <= n+1; k += 1 + n/40 {
			c, err := nat.Choose(n, k)
			works(t, "Choose", c, err, fromBig(new(big.Int).Binomial(int64(n), int64(k))))
		}
	}
	c, err := nat.Choose(4096, 2048)
	works(t, "Choose(4096, 2048)", c, err, fromBig(new(big.Int).Binomial(4096, 2048)))
}

// P1.9
func TestChooseErrors(t *testing.T) {
	for _, x := range []struct {
		n, k int
		want error
	}{
		{-1, 0, api.ErrArg},
		{0, -1, api.ErrArg},
		{-1, -1, api.ErrArg},
		{math.MinInt, math.MaxInt, api.ErrArg},
		{4097, -1, api.ErrArg},
		{4097, 0, api.ErrLong},
		{4097, 4097, api.ErrLong},
		{4097, 4098, api.ErrLong},
		{math.MaxInt, 1, api.ErrLong},
	} {
		c, err := nat.Choose(x.n, x.k)
		fails(t, "Choose", c, err, x.want)
	}
}

package rat_test

import (
	"math"
	"math/big"
	"testing"

	"vertex/api"
	"vertex/rat"
)

// P3.1
func TestNorm(t *testing.T) {
	for _, x := range []struct {
		a    api.Rat
		want string
	}{
		{by(6, 4), "3/2"}, {by(-6, 4), "-3/2"}, {by(3, 2), "3/2"}, {by(-8, 2), "-4"}, {by(5, 1), "5"}, {by(7, 7), "1"},
		{by(0, 7), "0"}, {by(0, 1), "0"}, {by(0, 0), "0"}, {by(5, 0), "0"}, {by(-5, 0), "0"}, {limbs(false, api.Nat{5}, nil), "0"}, {api.Rat{}, "0"},
		{limbs(true, api.Nat{0}, api.Nat{3}), "0"}, {limbs(true, nil, api.Nat{3}), "0"}, {limbs(true, nil, nil), "0"}, {limbs(true, api.Nat{5}, api.Nat{0, 0}), "0"},
		{limbs(false, api.Nat{8, 0}, api.Nat{12, 0, 0}), "2/3"}, {limbs(true, api.Nat{0, 6, 0}, api.Nat{0, 4}), "-3/2"}, {limbs(true, api.Nat{0, 1}, api.Nat{half}), "-2"},
	} {
		tells(t, "Norm", rat.Norm(x.a), x.want)
	}
	for a := range pairs {
		isBig(t, "Norm", rat.Norm(a), toBig(a))
	}
}

// P3.1
func TestMake(t *testing.T) {
	for _, x := range []struct {
		num, den int64
		want     string
	}{
		{6, 4, "3/2"}, {6, -4, "-3/2"}, {-6, -4, "3/2"}, {-6, 4, "-3/2"}, {0, 5, "0"}, {0, -5, "0"}, {5, 1, "5"}, {5, -1, "-5"}, {-4, -2, "2"}, {math.MinInt64, math.MinInt64, "1"},
	} {
		a, err := rat.Make(whole(x.num), whole(x.den))
		tells(t, "Make", a, x.want)
		if err != nil {
			t.Errorf("Make(%d, %d): %v", x.num, x.den, err)
		}
	}
	for a, b := range pairs {
		got, err := rat.Make(a.Num, b.Num)
		num, den := intToBig(a.Num), intToBig(b.Num)
		if den.Sign() == 0 {
			fails(t, "Make", got, err, api.ErrDivide)
			continue
		}
		isBig(t, "Make", got, new(big.Rat).SetFrac(num, den))
		if err != nil {
			t.Fatalf("Make(%v, %v): %v", a.Num, b.Num, err)
		}
	}
}

// P3.1
func TestMakeRefuses(t *testing.T) {
	for _, den := range []api.Int{{}, {Neg: true}, {Mag: api.Nat{0}}, {Neg: true, Mag: api.Nat{0, 0}}} {
		for _, num := range []int64{1, 0, -7} {
			a, err := rat.Make(whole(num), den)
			fails(t, "Make by nought", a, err, api.ErrDivide)
		}
	}
}

// P3.1
func TestOf(t *testing.T) {
	for _, v := range []int64{0, 1, -1, 7, -7, 100, math.MaxInt64, math.MinInt64, math.MinInt64 + 1} {
		isBig(t, "Of", rat.Of(v), new(big.Rat).SetInt64(v))
	}
}

// P3.2
func TestSign(t *testing.T) {
	for _, x := range []struct {
		a    api.Rat
		want int
	}{
		{by(1, 9), 1}, {by(-1, 9), -1}, {by(0, 3), 0}, {limbs(true, api.Nat{0}, api.Nat{3}), 0}, {by(5, 0), 0}, {by(-5, 0), 0}, {api.Rat{}, 0}, {limbs(true, nil, nil), 0},
		{limbs(true, api.Nat{0, 1}, api.Nat{0, 0, 1}), -1},
	} {
		if s := rat.Sign(x.a); s != x.want {
			t.Errorf("Sign(%v): %d, want %d", x.a, s, x.want)
		}
	}
	for a := range pairs {
		if s := rat.Sign(a); s != toBig(a).Sign() {
			t.Fatalf("Sign(%v): %d", a, s)
		}
	}
}

// P3.2
func TestCmp(t *testing.T) {
	for _, x := range []struct {
		a, b api.Rat
		want int
	}{
		{by(1, 3), by(2, 6), 0}, {by(-1, 2), by(-1, 3), -1}, {by(1, 2), by(1, 3), 1}, {by(-1, 9), by(1, 9), -1}, {by(1, 9), by(-1, 9), 1},
		{by(5, 0), by(-7, 0), 0}, {by(5, 0), by(0, 3), 0}, {by(5, 0), by(1, 9), -1}, {by(5, 0), by(-1, 9), 1}, {by(1, 9), by(5, 0), 1}, {by(-1, 9), by(5, 0), -1},
		{by(7, 3), by(5, 2), -1}, {by(7, 3), by(7, 4), 1}, {limbs(false, api.Nat{1, 0, 0}, api.Nat{2, 0}), by(3, 6), 0},
		{limbs(false, api.Nat{top, top}, api.Nat{0, 0, 1}), by(1, 1), -1}, {limbs(true, api.Nat{1, 0, 1}, api.Nat{0, 0, 1}), by(-1, 1), -1},
	} {
		if c := rat.Cmp(x.a, x.b); c != x.want {
			t.Errorf("Cmp(%v, %v): %d, want %d", x.a, x.b, c, x.want)
		}
	}
	for a, b := range pairs {
		if c := rat.Cmp(a, b); c != toBig(a).Cmp(toBig(b)) {
			t.Fatalf("Cmp(%v, %v): %d", a, b, c)
		}
	}
}

// P3.3
func TestNegAndAbs(t *testing.T) {
	for _, x := range []struct {
		a        api.Rat
		neg, abs string
	}{
		{by(1, 2), "-1/2", "1/2"}, {by(-4, 6), "2/3", "2/3"}, {by(4, 6), "-2/3", "2/3"}, {by(0, 7), "0", "0"}, {by(5, 0), "0", "0"}, {by(-5, 0), "0", "0"}, {limbs(true, nil, api.Nat{1}), "0", "0"},
	} {
		tells(t, "Neg", rat.Neg(x.a), x.neg)
		tells(t, "Abs", rat.Abs(x.a), x.abs)
	}
	for a := range pairs {
		n := toBig(a)
		isBig(t, "Neg", rat.Neg(a), new(big.Rat).Neg(n))
		isBig(t, "Abs", rat.Abs(a), new(big.Rat).Abs(n))
	}
}

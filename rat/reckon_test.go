package rat_test

import (
	"math/big"
	"math/rand"
	"testing"

	"vertex/api"
	"vertex/rat"
)

// P3.4
func TestAddSubMul(t *testing.T) {
	for _, x := range []struct {
		a, b          api.Rat
		sum, dif, pro string
	}{
		{by(1, 2), by(1, 3), "5/6", "1/6", "1/6"}, {by(1, 2), by(1, 2), "1", "0", "1/4"}, {by(2, 3), by(3, 4), "17/12", "-1/12", "1/2"}, {by(-1, 2), by(1, 2), "0", "-1", "-1/4"},
		{by(1, 6), by(1, 3), "1/2", "-1/6", "1/18"}, {by(-5, 4), by(-10, 8), "-5/2", "0", "25/16"}, {by(3, 1), by(-4, 1), "-1", "7", "-12"},
		{by(0, 5), by(-2, 4), "-1/2", "1/2", "0"}, {by(9, 0), by(2, 4), "1/2", "-1/2", "0"}, {by(2, 4), by(9, 0), "1/2", "1/2", "0"}, {by(9, 0), by(-9, 0), "0", "0", "0"},
		{limbs(false, api.Nat{0, 1, 0}, api.Nat{3, 0}), by(1, 3), "18446744073709551617/3", "18446744073709551615/3", "18446744073709551616/9"},
	} {
		tells(t, "Add", rat.Add(x.a, x.b), x.sum)
		tells(t, "Sub", rat.Sub(x.a, x.b), x.dif)
		tells(t, "Mul", rat.Mul(x.a, x.b), x.pro)
	}
	for a, b := range pairs {
		x, y := toBig(a), toBig(b)
		isBig(t, "Add", rat.Add(a, b), new(big.Rat).Add(x, y))
		isBig(t, "Sub", rat.Sub(a, b), new(big.Rat).Sub(x, y))
		isBig(t, "Mul", rat.Mul(a, b), new(big.Rat).Mul(x, y))
	}
}

// P3.5
func TestQuo(t *testing.T) {
	for _, x := range []struct {
		a, b api.Rat
		want string
	}{
		{by(1, 2), by(-3, 1), "-1/6"}, {by(-1, 2), by(-3, 1), "1/6"}, {by(2, 3), by(4, 6), "1"}, {by(0, 3), by(-4, 6), "0"}, {by(7, 0), by(-4, 6), "0"}, {by(6, 4), by(3, 8), "4"}, {by(-1, 1), by(1, 7), "-7"},
	} {
		a, err := rat.Quo(x.a, x.b)
		tells(t, "Quo", a, x.want)
		if err != nil {
			t.Errorf("Quo(%v, %v): %v", x.a, x.b, err)
		}
	}
	for a, b := range pairs {
		got, err := rat.Quo(a, b)
		x, y := toBig(a), toBig(b)
		if y.Sign() == 0 {
			fails(t, "Quo", got, err, api.ErrDivide)
			continue
		}
		isBig(t, "Quo", got, x.Quo(x, y))
		if err != nil {
			t.Fatalf("Quo(%v, %v): %v", a, b, err)
		}
	}
}

// P3.5
func TestInv(t *testing.T) {
	for _, x := range []struct {
		a    api.Rat
		want string
	}{
		{by(-2, 3), "-3/2"}, {by(2, 3), "3/2"}, {by(4, 6), "3/2"}, {by(1, 1), "1"}, {by(-1, 1), "-1"}, {by(5, 1), "1/5"}, {by(1, 5), "5"},
	} {
		a, err := rat.Inv(x.a)
		tells(t, "Inv", a, x.want)
		if err != nil {
			t.Errorf("Inv(%v): %v", x.a, err)
		}
	}
	for a := range pairs {
		got, err := rat.Inv(a)
		n := toBig(a)
		if n.Sign() == 0 {
			fails(t, "Inv", got, err, api.ErrDivide)
			continue
		}
		isBig(t, "Inv", got, n.Inv(n))
		if err != nil {
			t.Fatalf("Inv(%v): %v", a, err)
		}
	}
}

// P3.5: nought, in all the ways in which it is told.
func TestQuoAndInvRefuse(t *testing.T) {
	for _, nought := range []api.Rat{{}, by(0, 1), by(0, 5), by(7, 0), by(-7, 0), limbs(true, nil, api.Nat{3}), limbs(true, api.Nat{0, 0}, api.Nat{3}), limbs(false, api.Nat{7}, nil)} {
		for _, a := range []api.Rat{by(1, 1), by(-2, 3), nought} {
			got, err := rat.Quo(a, nought)
			fails(t, "Quo by nought", got, err, api.ErrDivide)
		}
		got, err := rat.Inv(nought)
		fails(t, "Inv of nought", got, err, api.ErrDivide)
	}
}

// P3.6
func TestSum(t *testing.T) {
	for _, x := range []struct {
		l    []api.Rat
		want string
	}{
		{nil, "0"}, {[]api.Rat{}, "0"}, {[]api.Rat{by(6, 4)}, "3/2"}, {[]api.Rat{by(7, 0)}, "0"}, {[]api.Rat{by(1, 2), by(1, 3), by(1, 6)}, "1"},
		{[]api.Rat{by(1, 2), by(-1, 2)}, "0"}, {[]api.Rat{by(1, 2), by(9, 0), by(-3, 4), by(0, 5)}, "-1/4"},
	} {
		tells(t, "Sum", rat.Sum(x.l...), x.want)
	}
	r := rand.New(rand.NewSource(17))
	for n := range 40 {
		want := new(big.Rat)
		l := make([]api.Rat, n)
		for i := range l {
			l[i] = some(r, 2)
			want.Add(want, toBig(l[i]))
		}
		isBig(t, "Sum", rat.Sum(l...), want)
	}
}

// P3.6
func TestDot(t *testing.T) {
	for _, x := range []struct {
		a, b []api.Rat
		want string
	}{
		{[]api.Rat{by(1, 1), by(2, 1), by(3, 1)}, []api.Rat{by(1, 2), by(1, 4)}, "1"}, {[]api.Rat{by(1, 2), by(1, 4)}, []api.Rat{by(1, 1), by(2, 1), by(3, 1)}, "1"},
		{nil, nil, "0"}, {nil, []api.Rat{by(1, 1)}, "0"}, {[]api.Rat{by(1, 1)}, nil, "0"}, {[]api.Rat{}, []api.Rat{by(1, 1)}, "0"},
		{[]api.Rat{by(6, 4)}, []api.Rat{by(2, 3)}, "1"}, {[]api.Rat{by(7, 0)}, []api.Rat{by(2, 3)}, "0"}, {[]api.Rat{by(2, 3)}, []api.Rat{by(7, 0)}, "0"},
		{[]api.Rat{by(1, 2), by(1, 3)}, []api.Rat{by(2, 1), by(-3, 1)}, "0"}, {[]api.Rat{by(1, 2), by(1, 3), by(5, 7)}, []api.Rat{by(-2, 1), by(3, 1), by(7, 5)}, "1"},
	} {
		tells(t, "Dot", rat.Dot(x.a, x.b), x.want)
	}
	r := rand.New(rand.NewSource(19))
	for n := range 20 {
		for m := range 20 {
			want := new(big.Rat)
			a, b := make([]api.Rat, n), make([]api.Rat, m)
			for i := range a {
				a[i] = some(r, 1)
			}
			for i := range b {
				b[i] = some(r, 2)
			}
			for i := range min(n, m) {
				want.Add(want, new(big.Rat).Mul(toBig(a[i]), toBig(b[i])))
			}
			isBig(t, "Dot", rat.Dot(a, b), want)
		}
	}
}

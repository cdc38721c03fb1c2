package whole_test

import (
	"math/big"
	"math/rand"
	"testing"

	"vertex/api"
	"vertex/whole"
)

// P2.4
func TestAddSubMulExamples(t *testing.T) {
	is(t, "-3 + 5", whole.Add(whole.Of(-3), whole.Of(5)), above(2))
	is(t, "3 + -5", whole.Add(whole.Of(3), whole.Of(-5)), below(2))
	is(t, "-3 + -5", whole.Add(whole.Of(-3), whole.Of(-5)), below(8))
	is(t, "-3 - 5", whole.Sub(whole.Of(-3), whole.Of(5)), below(8))
	is(t, "3 - 5", whole.Sub(whole.Of(3), whole.Of(5)), below(2))
	is(t, "-3 - -5", whole.Sub(whole.Of(-3), whole.Of(-5)), above(2))
	is(t, "-3 * 5", whole.Mul(whole.Of(-3), whole.Of(5)), below(15))
	is(t, "-3 * -5", whole.Mul(whole.Of(-3), whole.Of(-5)), above(15))
	want := dec(t, "-340282366920938463426481119284349108225")
	is(t, "(-2^64 + 1) * (2^64 - 1)", whole.Mul(below(top), above(top)), want)
}

// P2.4, R5: where the answer is nought it has neither limbs nor sign.
func TestNoughtHasNoSign(t *testing.T) {
	for _, nought := range []api.Int{above(), below(), above(0, 0), below(0)} {
		for _, other := range []api.Int{above(), below(), below(0, 0)} {
			is(t, "0 + 0", whole.Add(nought, other), above())
			is(t, "0 - 0", whole.Sub(nought, other), above())
			is(t, "0 * 0", whole.Mul(nought, other), above())
		}
		for _, a := range []api.Int{above(5), below(5), below(0, 5), above(5, 0)} {
			is(t, "0 * a", whole.Mul(nought, a), above())
			is(t, "a * 0", whole.Mul(a, nought), above())
			is(t, "a + 0", whole.Add(a, nought), whole.Norm(a))
			is(t, "0 + a", whole.Add(nought, a), whole.Norm(a))
			is(t, "a - 0", whole.Sub(a, nought), whole.Norm(a))
			is(t, "0 - a", whole.Sub(nought, a), whole.Neg(a))
			is(t, "a - a", whole.Sub(a, whole.Norm(a)), above())
			is(t, "a + -a", whole.Add(whole.Neg(a), a), above())
		}
	}
}

// P2.4
func TestAddSubMul(t *testing.T) {
	for a, b := range pairs {
		x, y := toBig(a), toBig(b)
		isBig(t, "Add", whole.Add(a, b), new(big.Int).Add(x, y))
		isBig(t, "Sub", whole.Sub(a, b), new(big.Int).Sub(x, y))
		isBig(t, "Mul", whole.Mul(a, b), new(big.Int).Mul(x, y))
	}
}

// P2.4
func TestSum(t *testing.T) {
	is(t, "Sum()", whole.Sum(), above())
	is(t, "Sum of an empty list", whole.Sum([]api.Int{}...), above())
	is(t, "Sum(-5)", whole.Sum(below(5, 0)), below(5))
	is(t, "Sum of a nought", whole.Sum(below(0)), above())
	is(t, "Sum(1, -2, 3)", whole.Sum(whole.Of(1), whole.Of(-2), whole.Of(3)), above(2))
	is(t, "Sum(-1, 2, -3)", whole.Sum(whole.Of(-1), whole.Of(2), whole.Of(-3)), below(2))
	is(t, "Sum that comes back to nought", whole.Sum(below(0, 1), above(top), above(1)), above())
	r := rand.New(rand.NewSource(5))
	for n := range 60 {
		l, want := make([]api.Int, n), new(big.Int)
		for i := range l {
			l[i] = some(r, 5)
			want.Add(want, toBig(l[i]))
		}
		isBig(t, "Sum", whole.Sum(l...), want)
	}
	many := make([]api.Int, 20000)
	for i := range many {
		many[i] = below(top, 1)
	}
	isBig(t, "Sum of many", whole.Sum(many...), new(big.Int).Mul(toBig(below(top, 1)), big.NewInt(20000)))
}

// P2.5, P2.6: in each line a, b, what QuoRem tells, what DivFloor tells.
func TestDivisionExamples(t *testing.T) {
	for _, x := range [][6]int64{
		{7, 2, 3, 1, 3, 1}, {-7, 2, -3, -1, -4, 1}, {7, -2, -3, 1, -4, -1}, {-7, -2, 3, -1, 3, -1},
		{6, 2, 3, 0, 3, 0}, {-6, 2, -3, 0, -3, 0}, {6, -2, -3, 0, -3, 0}, {-6, -2, 3, 0, 3, 0},
		{3, 5, 0, 3, 0, 3}, {-3, 5, 0, -3, -1, 2}, {3, -5, 0, 3, -1, -2}, {-3, -5, 0, -3, 0, -3},
		{0, 5, 0, 0, 0, 0}, {0, -5, 0, 0, 0, 0}, {5, 5, 1, 0, 1, 0}, {-5, 5, -1, 0, -1, 0}, {1, -1, -1, 0, -1, 0},
	} {
		a, b := whole.Of(x[0]), whole.Of(x[1])
		q, r, err := whole.QuoRem(a, b)
		is(t, "QuoRem", q, whole.Of(x[2]))
		is(t, "QuoRem's rest", r, whole.Of(x[3]))
		p, s, no := whole.DivFloor(a, b)
		is(t, "DivFloor", p, whole.Of(x[4]))
		is(t, "DivFloor's rest", s, whole.Of(x[5]))
		if err != nil || no != nil {
			t.Errorf("%d by %d: %v, %v", x[0], x[1], err, no)
		}
	}
}

// P2.5, P2.6, R5: nought told with Neg and numbers with limbs of nought divide as they would otherwise.
func TestDivisionGoesByTheNumbers(t *testing.T) {
	for _, divide := range []func(a, b api.Int) (q, r api.Int, err error){whole.QuoRem, whole.DivFloor} {
		q, r, err := divide(below(0, 0), below(3, 0))
		is(t, "0 by -3", q, above())
		is(t, "0 by -3, the rest", r, above())
		if err != nil {
			t.Error(err)
		}
		q, r, err = divide(below(12, 0, 0), below(4, 0))
		is(t, "-12 by -4", q, above(3))
		is(t, "-12 by -4, the rest", r, above())
		if err != nil {
			t.Error(err)
		}
	}
	q, r, err := whole.DivFloor(above(0, 1, 0), below(top, 0))
	is(t, "2^64 by -(2^64 - 1)", q, below(2))
	is(t, "2^64 by -(2^64 - 1), the rest", r, below(top-1))
	if err != nil {
		t.Error(err)
	}
}

// P2.5
func TestQuoRem(t *testing.T) {
	for a, b := range pairs {
		x, y := toBig(a), toBig(b)
		if y.Sign() == 0 {
			continue
		}
		q, r, err := whole.QuoRem(a, b)
		wantQ, wantR := new(big.Int).QuoRem(x, y, new(big.Int))
		isBig(t, "QuoRem", q, wantQ)
		isBig(t, "QuoRem's rest", r, wantR)
		if err != nil {
			t.Fatalf("QuoRem(%v, %v): %v", a, b, err)
		}
	}
}

// P2.6
func TestDivFloor(t *testing.T) {
	for a, b := range pairs {
		x, y := toBig(a), toBig(b)
		if y.Sign() == 0 {
			continue
		}
		q, r, err := whole.DivFloor(a, b)
		if err != nil {
			t.Fatalf("DivFloor(%v, %v): %v", a, b, err)
		}
		quo, rest := toBig(q), toBig(r)
		isBig(t, "DivFloor", q, quo)
		isBig(t, "DivFloor's rest", r, rest)
		back := new(big.Int).Mul(quo, y)
		if back.Add(back, rest).Cmp(x) != 0 || rest.CmpAbs(y) >= 0 || rest.Sign() != 0 && rest.Sign() != y.Sign() {
			t.Fatalf("DivFloor(%v, %v): %v, %v", a, b, q, r)
		}
	}
}

// P2.5, P2.6
func TestDividedByNought(t *testing.T) {
	for _, a := range []api.Int{above(), below(0), above(1), below(1), below(5, 6, 0)} {
		for _, b := range []api.Int{above(), below(), above(0), below(0, 0)} {
			q, r, err := whole.QuoRem(a, b)
			isZero(t, "QuoRem by nought", q)
			isZero(t, "QuoRem by nought, the rest", r)
			if err != api.ErrDivide {
				t.Errorf("QuoRem(%v, %v): %v", a, b, err)
			}
			q, r, err = whole.DivFloor(a, b)
			isZero(t, "DivFloor by nought", q)
			isZero(t, "DivFloor by nought, the rest", r)
			if err != api.ErrDivide {
				t.Errorf("DivFloor(%v, %v): %v", a, b, err)
			}
		}
	}
}

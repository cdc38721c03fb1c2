package whole_test

import (
	"math"
	"slices"
	"testing"

	"vertex/api"
	"vertex/whole"
)

// P2.1
func TestNorm(t *testing.T) {
	for _, x := range []struct{ a, want api.Int }{
		{above(), above()},
		{below(), above()},
		{above(0), above()},
		{below(0, 0, 0), above()},
		{above(5), above(5)},
		{below(5), below(5)},
		{below(5, 0), below(5)},
		{above(0, 5, 0, 0), above(0, 5)},
		{below(0, 0, 5), below(0, 0, 5)},
		{below(top, top, 0), below(top, top)},
	} {
		is(t, "Norm", whole.Norm(x.a), x.want)
	}
	for a := range pairs {
		isBig(t, "Norm", whole.Norm(a), toBig(a))
	}
}

// P2.1
func TestOf(t *testing.T) {
	for _, x := range []struct {
		v    int64
		want api.Int
	}{
		{0, above()}, {1, above(1)}, {-1, below(1)}, {7, above(7)}, {-7, below(7)},
		{math.MaxInt64, above(half - 1)}, {-math.MaxInt64, below(half - 1)}, {math.MinInt64, below(half)},
	} {
		is(t, "Of", whole.Of(x.v), x.want)
	}
}

// P2.1
func TestFrom(t *testing.T) {
	for _, x := range []struct {
		neg  bool
		a    api.Nat
		want api.Int
	}{
		{true, api.Nat{7}, below(7)},
		{false, api.Nat{7}, above(7)},
		{true, nil, above()},
		{false, nil, above()},
		{true, api.Nat{0, 0}, above()},
		{false, api.Nat{0}, above()},
		{true, api.Nat{0, 3, 0}, below(0, 3)},
		{false, api.Nat{top, top, 0, 0}, above(top, top)},
	} {
		is(t, "From", whole.From(x.neg, x.a), x.want)
	}
}

// P2.1
func TestInt64(t *testing.T) {
	for _, x := range []struct {
		a    api.Int
		want int64
		ok   bool
	}{
		{above(), 0, true},
		{below(), 0, true},
		{below(0, 0), 0, true},
		{above(9, 0), 9, true},
		{below(9, 0), -9, true},
		{above(half - 1), math.MaxInt64, true},
		{above(half-1, 0), math.MaxInt64, true},
		{above(half), 0, false},
		{above(half, 0), 0, false},
		{above(half + 1), 0, false},
		{below(half - 1), -math.MaxInt64, true},
		{below(half), math.MinInt64, true},
		{below(half, 0, 0), math.MinInt64, true},
		{below(half + 1), 0, false},
		{above(top), 0, false},
		{below(top), 0, false},
		{above(0, 1), 0, false},
		{below(0, 1), 0, false},
		{above(9, 0, 1), 0, false},
		{below(9, 1, 0), 0, false},
	} {
		if v, ok := whole.Int64(x.a); v != x.want || ok != x.ok {
			t.Errorf("Int64(%v): %d %v, want %d %v", x.a, v, ok, x.want, x.ok)
		}
	}
	for _, v := range []int64{0, 1, -1, math.MaxInt64, math.MinInt64, math.MinInt64 + 1, 1 << 40, -1 << 40} {
		if w, ok := whole.Int64(whole.Of(v)); w != v || !ok {
			t.Errorf("Int64(Of(%d)): %d %v", v, w, ok)
		}
	}
	for a := range pairs {
		n := toBig(a)
		v, ok := whole.Int64(a)
		if ok != n.IsInt64() || ok && v != n.Int64() || !ok && v != 0 {
			t.Fatalf("Int64(%v): %d %v", a, v, ok)
		}
	}
}

// P2.2
func TestSign(t *testing.T) {
	for _, x := range []struct {
		a    api.Int
		want int
	}{
		{above(), 0}, {below(), 0}, {below(0), 0}, {above(0, 0), 0},
		{above(1), 1}, {below(1), -1}, {above(0, 1), 1}, {below(0, 1), -1}, {below(0, 1, 0), -1},
	} {
		if s := whole.Sign(x.a); s != x.want {
			t.Errorf("Sign(%v): %d, want %d", x.a, s, x.want)
		}
	}
	for a := range pairs {
		if s := whole.Sign(a); s != toBig(a).Sign() {
			t.Fatalf("Sign(%v): %d", a, s)
		}
	}
}

// P2.2
func TestCmp(t *testing.T) {
	for _, x := range []struct {
		a, b api.Int
		want int
	}{
		{above(), below(), 0}, {below(0), above(0, 0), 0},
		{below(2), below(1), -1}, {below(1), below(2), 1}, {below(1, 0), below(1), 0},
		{above(1), above(2), -1}, {above(2), above(1), 1}, {above(2), above(2, 0, 0), 0},
		{below(9), above(1), -1}, {above(1), below(9), 1},
		{below(0), above(1), -1}, {above(1), below(0), 1}, {below(0), below(1), 1}, {below(1), below(0), -1},
		{below(0, 1), below(top), -1}, {above(0, 1), above(top), 1},
	} {
		if c := whole.Cmp(x.a, x.b); c != x.want {
			t.Errorf("Cmp(%v, %v): %d, want %d", x.a, x.b, c, x.want)
		}
	}
	for a, b := range pairs {
		if c := whole.Cmp(a, b); c != toBig(a).Cmp(toBig(b)) {
			t.Fatalf("Cmp(%v, %v): %d", a, b, c)
		}
	}
}

// P2.3
func TestNeg(t *testing.T) {
	for _, x := range []struct{ a, want api.Int }{
		{above(), above()}, {below(), above()}, {above(0), above()}, {below(0, 0), above()},
		{above(7), below(7)}, {below(7), above(7)}, {above(7, 0), below(7)}, {below(0, 7, 0), above(0, 7)},
	} {
		is(t, "Neg", whole.Neg(x.a), x.want)
	}
	for a := range pairs {
		n := toBig(a)
		isBig(t, "Neg", whole.Neg(a), n.Neg(n))
	}
}

// P2.3
func TestAbs(t *testing.T) {
	for _, x := range []struct {
		a    api.Int
		want api.Nat
	}{
		{above(), nil}, {below(), nil}, {below(0, 0), nil},
		{above(7), api.Nat{7}}, {below(7), api.Nat{7}}, {below(7, 0), api.Nat{7}}, {below(half), api.Nat{half}}, {below(0, 7, 0), api.Nat{0, 7}},
	} {
		if got := whole.Abs(x.a); !slices.Equal(got, x.want) {
			t.Errorf("Abs(%v): %v, want %v", x.a, got, x.want)
		}
	}
	for a := range pairs {
		n := toBig(a)
		isBig(t, "Abs", api.Int{Mag: whole.Abs(a)}, n.Abs(n))
	}
}

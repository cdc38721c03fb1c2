package nat_test

import (
	"slices"
	"testing"

	"vertex/api"
	"vertex/nat"
)

// P1.1
func TestNorm(t *testing.T) {
	for _, x := range []struct{ a, want api.Nat }{
		{nil, nil},
		{api.Nat{}, nil},
		{api.Nat{0}, nil},
		{api.Nat{0, 0, 0}, nil},
		{api.Nat{5}, api.Nat{5}},
		{api.Nat{5, 0, 0}, api.Nat{5}},
		{api.Nat{0, 0, 5}, api.Nat{0, 0, 5}},
		{api.Nat{0, 5, 0}, api.Nat{0, 5}},
		{api.Nat{top, top}, api.Nat{top, top}},
	} {
		is(t, "Norm", nat.Norm(x.a), x.want)
	}
	long := make(api.Nat, 5000)
	long[4000] = 1
	is(t, "Norm of many limbs", nat.Norm(long), long[:4001])
}

// P1.1
func TestOf(t *testing.T) {
	is(t, "Of(0)", nat.Of(0), nil)
	is(t, "Of(7)", nat.Of(7), api.Nat{7})
	is(t, "Of(2^64 - 1)", nat.Of(top), api.Nat{top})
}

// P1.1
func TestUint64(t *testing.T) {
	for _, x := range []struct {
		a    api.Nat
		want uint64
		ok   bool
	}{
		{nil, 0, true},
		{api.Nat{0, 0}, 0, true},
		{api.Nat{top}, top, true},
		{api.Nat{9, 0}, 9, true},
		{api.Nat{0, 1}, 0, false},
		{api.Nat{9, 1, 0}, 0, false},
		{api.Nat{9, 0, 1}, 0, false},
	} {
		if v, ok := nat.Uint64(x.a); v != x.want || ok != x.ok {
			t.Errorf("Uint64(%v): %d %v, want %d %v", x.a, v, ok, x.want, x.ok)
		}
	}
}

// P1.2
func TestBits(t *testing.T) {
	for _, x := range []struct {
		a    api.Nat
		want int
	}{
		{nil, 0}, {api.Nat{0, 0}, 0}, {api.Nat{1}, 1}, {api.Nat{2}, 2}, {api.Nat{3, 0}, 2}, {api.Nat{255}, 8}, {api.Nat{256}, 9},
		{api.Nat{half}, 64}, {api.Nat{top}, 64}, {api.Nat{0, 1}, 65}, {api.Nat{top, 1, 0}, 65}, {api.Nat{0, 0, half}, 192},
	} {
		if got := nat.Bits(x.a); got != x.want {
			t.Errorf("Bits(%v): %d, want %d", x.a, got, x.want)
		}
	}
	for a, b := range pairs {
		if nat.Bits(a) != toBig(a).BitLen() || nat.Bits(b) != toBig(b).BitLen() {
			t.Fatalf("Bits(%v), Bits(%v): %d, %d", a, b, nat.Bits(a), nat.Bits(b))
		}
	}
}

// P1.2
func TestCmp(t *testing.T) {
	rising := []api.Nat{nil, {1}, {2}, {half}, {top}, {0, 1}, {1, 1}, {top, 1}, {0, 2}, {1, 0, 1}, {0, 1, 1}, {top, top, top}}
	for i, a := range rising {
		for j, b := range rising {
			want := 0
			if i < j {
				want = -1
			} else if i > j {
				want = 1
			}
			for _, got := range []int{nat.Cmp(a, b), nat.Cmp(padded(a, 2), b), nat.Cmp(a, padded(b, 3)), nat.Cmp(padded(a, 1), padded(b, 2))} {
				if got != want {
					t.Errorf("Cmp(%v, %v): %d, want %d", a, b, got, want)
				}
			}
		}
	}
	for a, b := range pairs {
		if got, want := nat.Cmp(a, b), toBig(a).Cmp(toBig(b)); got != want {
			t.Fatalf("Cmp(%v, %v): %d, want %d", a, b, got, want)
		}
	}
}

// R5: the calls go by the number, not by how it is told.
func TestHowANumberIsTold(t *testing.T) {
	for a, b := range pairs {
		if len(a) > 30 || len(b) > 30 {
			continue
		}
		one := answers(nat.Norm(a), nat.Norm(b))
		for i, other := range answers(padded(a, 2), padded(b, 1)) {
			if !slices.Equal(one[i], other) {
				t.Fatalf("%v, %v: answer %d is %v with limbs of nought at the end, else %v", a, b, i, other, one[i])
			}
		}
	}
}

// answers asks all that takes two numbers, or the first one and a count.
func answers(a, b api.Nat) []api.Nat {
	difference, _ := nat.Sub(a, b)
	q, r, _ := nat.DivMod(a, b)
	up, _ := nat.Shl(a, 77)
	down, _ := nat.Shr(a, 77)
	cube, _ := nat.Pow(a, 3)
	return []api.Nat{nat.Norm(a), nat.Add(a, b), difference, nat.Mul(a, b), q, r, nat.Gcd(a, b), up, down, cube}
}

package nat_test

import (
	"testing"

	"vertex/api"
	"vertex/nat"
)

// P1.12
func TestLawsOfSumsAndProducts(t *testing.T) {
	c := api.Nat{3, top, 0, half, 0}
	for a, b := range pairs {
		is(t, "a + b", nat.Add(a, b), nat.Add(b, a))
		is(t, "a b", nat.Mul(a, b), nat.Mul(b, a))
		is(t, "(a + b) + c", nat.Add(nat.Add(a, b), c), nat.Add(a, nat.Add(b, c)))
		is(t, "(a b) c", nat.Mul(nat.Mul(a, b), c), nat.Mul(a, nat.Mul(b, c)))
		is(t, "(a + b) c", nat.Mul(nat.Add(a, b), c), nat.Add(nat.Mul(a, c), nat.Mul(b, c)))
		d, err := nat.Sub(nat.Add(a, b), b)
		works(t, "(a + b) - b", d, err, nat.Norm(a))
		c = b
	}
}

// P1.12
func TestLawOfDivision(t *testing.T) {
	for a, b := range pairs {
		q, r, err := nat.DivMod(a, b)
		if nat.Bits(b) == 0 {
			if err != api.ErrDivide {
				t.Fatalf("DivMod(%v, %v): %v", a, b, err)
			}
			continue
		}
		works(t, "b q + r", nat.Add(nat.Mul(b, q), r), err, nat.Norm(a))
		if nat.Cmp(r, b) >= 0 {
			t.Fatalf("DivMod(%v, %v): the rest %v isn't below", a, b, r)
		}
	}
}

// P1.12
func TestLawOfTexts(t *testing.T) {
	for a := range pairs {
		b, err := nat.Parse(nat.Text(a))
		works(t, "Parse of Text", b, err, nat.Norm(a))
	}
}

// P1.12
func TestLawOfGcd(t *testing.T) {
	c := api.Nat{0, 12}
	for a, b := range pairs {
		g := nat.Gcd(a, b, c)
		if len(g) == 0 {
			if nat.Bits(a)+nat.Bits(b)+nat.Bits(c) > 0 {
				t.Fatalf("Gcd(%v, %v, %v) is nought", a, b, c)
			}
			continue
		}
		var parts []api.Nat
		for _, x := range []api.Nat{a, b, c} {
			q, r, err := nat.DivMod(x, g)
			works(t, "what Gcd leaves over", r, err, nil)
			parts = append(parts, q)
		}
		if nat.Bits(a)+nat.Bits(b)+nat.Bits(c) > 0 {
			is(t, "Gcd of what was divided by it", nat.Gcd(parts...), nat.Of(1))
		}
		c = b
	}
}

// P1.7, P1.8 and P1.9 put together with P1.12.
func TestShiftsPowersAndChoices(t *testing.T) {
	for a := range pairs {
		two, _ := nat.Pow(api.Nat{2}, 131)
		up, err := nat.Shl(a, 131)
		works(t, "Shl", up, err, nat.Mul(a, two))
		down, err := nat.Shr(up, 131)
		works(t, "Shr of Shl", down, err, nat.Norm(a))
		q, _, _ := nat.DivMod(a, two)
		down, err = nat.Shr(a, 131)
		works(t, "Shr", down, err, q)
	}
	sum := api.Nat(nil)
	for k := range 201 {
		c, _ := nat.Choose(200, k)
		sum = nat.Add(sum, c)
	}
	is(t, "all choices of 200", sum, power(200))
}

package whole_test

import (
	"testing"

	"vertex/whole"
)

// What follows: the laws of a ring.
func TestLawsOfARing(t *testing.T) {
	c := below(3, top, 0, half, 0)
	for a, b := range pairs {
		is(t, "a + b", whole.Add(a, b), whole.Add(b, a))
		is(t, "a b", whole.Mul(a, b), whole.Mul(b, a))
		is(t, "(a + b) + c", whole.Add(whole.Add(a, b), c), whole.Add(a, whole.Add(b, c)))
		is(t, "Sum(a, b, c)", whole.Sum(a, b, c), whole.Add(a, whole.Add(b, c)))
		is(t, "(a b) c", whole.Mul(whole.Mul(a, b), c), whole.Mul(a, whole.Mul(b, c)))
		is(t, "(a + b) c", whole.Mul(whole.Add(a, b), c), whole.Add(whole.Mul(a, c), whole.Mul(b, c)))
		is(t, "a + -a", whole.Add(a, whole.Neg(a)), above())
		is(t, "a - b", whole.Sub(a, b), whole.Add(a, whole.Neg(b)))
		c = b
	}
}

// What follows: Cmp is the order.
func TestLawsOfTheOrder(t *testing.T) {
	c := below(3, top, 0, half, 0)
	for a, b := range pairs {
		order := whole.Cmp(a, b)
		if s := whole.Sign(whole.Sub(a, b)); s != order {
			t.Fatalf("Cmp(%v, %v) is %d, the sign of the difference %d", a, b, order, s)
		}
		if o := whole.Cmp(b, a); o != -order {
			t.Fatalf("Cmp(%v, %v) is %d, the other way round %d", a, b, order, o)
		}
		if o := whole.Cmp(whole.Add(a, c), whole.Add(b, c)); o != order {
			t.Fatalf("Cmp(%v, %v) is %d, with %v added to both %d", a, b, order, c, o)
		}
		if o := whole.Cmp(whole.Mul(a, c), whole.Mul(b, c)); o != order*whole.Sign(c) {
			t.Fatalf("Cmp(%v, %v) is %d, both multiplied by %v %d", a, b, order, c, o)
		}
		c = b
	}
}

// What follows: what Text tells Parse reads.
func TestLawOfTexts(t *testing.T) {
	for a := range pairs {
		b, err := whole.Parse(whole.Text(a))
		is(t, "Parse of Text", b, whole.Norm(a))
		if err != nil {
			t.Fatalf("Parse of Text(%v): %v", a, err)
		}
	}
}

// P2.5, P2.6: q times b and r together are a, with each of the two.
func TestLawOfDivision(t *testing.T) {
	for a, b := range pairs {
		q, r, err := whole.QuoRem(a, b)
		p, s, no := whole.DivFloor(a, b)
		if whole.Sign(b) == 0 {
			continue
		}
		if err != nil || no != nil {
			t.Fatalf("%v by %v: %v, %v", a, b, err, no)
		}
		is(t, "QuoRem put together", whole.Add(whole.Mul(q, b), r), whole.Norm(a))
		is(t, "DivFloor put together", whole.Add(whole.Mul(p, b), s), whole.Norm(a))
		if s := whole.Sign(r); s != 0 && s != whole.Sign(a) {
			t.Fatalf("QuoRem(%v, %v): the rest is %v", a, b, r)
		}
	}
}

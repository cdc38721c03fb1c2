package rat_test

import (
	"slices"
	"testing"

	"vertex/api"
	"vertex/rat"
)

// P3.12: the laws of a field.
func TestLawsOfAField(t *testing.T) {
	c := limbs(true, api.Nat{3, top, 0}, api.Nat{half, 1, 0})
	for a, b := range pairs {
		is(t, "a + b", rat.Add(a, b), rat.Add(b, a))
		is(t, "a b", rat.Mul(a, b), rat.Mul(b, a))
		is(t, "(a + b) + c", rat.Add(rat.Add(a, b), c), rat.Add(a, rat.Add(b, c)))
		is(t, "Sum(a, b, c)", rat.Sum(a, b, c), rat.Add(a, rat.Add(b, c)))
		is(t, "(a b) c", rat.Mul(rat.Mul(a, b), c), rat.Mul(a, rat.Mul(b, c)))
		is(t, "(a + b) c", rat.Mul(rat.Add(a, b), c), rat.Add(rat.Mul(a, c), rat.Mul(b, c)))
		is(t, "(a, b) (c, c)", rat.Dot([]api.Rat{a, b}, []api.Rat{c, c}), rat.Mul(rat.Add(a, b), c))
		is(t, "a + 0", rat.Add(a, rat.Of(0)), rat.Norm(a))
		is(t, "a times 1", rat.Mul(a, rat.Of(1)), rat.Norm(a))
		is(t, "a + -a", rat.Add(a, rat.Neg(a)), rat.Of(0))
		is(t, "a - b", rat.Sub(a, b), rat.Add(a, rat.Neg(b)))
		if rat.Sign(b) != 0 {
			q, err := rat.Quo(a, b)
			turned, no := rat.Inv(b)
			is(t, "a by b", q, rat.Mul(a, turned))
			is(t, "b by b", rat.Mul(b, turned), rat.Of(1))
			is(t, "a by b, times b", rat.Mul(q, b), rat.Norm(a))
			if err != nil || no != nil {
				t.Fatalf("%v by %v: %v, %v", a, b, err, no)
			}
		}
		c = b
	}
}

// P3.12: Cmp is the order of the field.
func TestLawsOfTheOrder(t *testing.T) {
	c := limbs(true, api.Nat{3, top, 0}, api.Nat{half, 1, 0})
	for a, b := range pairs {
		order := rat.Cmp(a, b)
		if s := rat.Sign(rat.Sub(a, b)); s != order {
			t.Fatalf("Cmp(%v, %v) is %d, the sign of the difference %d", a, b, order, s)
		}
		if o := rat.Cmp(b, a); o != -order {
			t.Fatalf("Cmp(%v, %v) is %d, the other way round %d", a, b, order, o)
		}
		if o := rat.Cmp(rat.Add(a, c), rat.Add(b, c)); o != order {
			t.Fatalf("Cmp(%v, %v) is %d, with %v added to both %d", a, b, order, c, o)
		}
		if o := rat.Cmp(rat.Mul(a, c), rat.Mul(b, c)); o != order*rat.Sign(c) {
			t.Fatalf("Cmp(%v, %v) is %d, both multiplied by %v %d", a, b, order, c, o)
		}
		if rat.Cmp(a, b) <= 0 && rat.Cmp(b, c) <= 0 && rat.Cmp(a, c) > 0 {
			t.Fatalf("%v, %v and %v aren't in order", a, b, c)
		}
		c = b
	}
}

// P3.12: what Text tells Parse reads, and one number has one text, another one another.
func TestLawOfTexts(t *testing.T) {
	for a, b := range pairs {
		text := rat.Text(a)
		back, err := rat.Parse(text)
		is(t, "Parse of Text", back, rat.Norm(a))
		if err != nil {
			t.Fatalf("Parse of Text(%v): %v", a, err)
		}
		if (text == rat.Text(b)) != (rat.Cmp(a, b) == 0) {
			t.Fatalf("Text(%v) and Text(%v)", a, b)
		}
	}
}

// tellings gives a number in other ways: limbs of nought, common divisors, and of nought all that it may be told by.
func tellings(a api.Rat) []api.Rat {
	plain := rat.Norm(a)
	all := []api.Rat{limbs(plain.Num.Neg, append(slices.Clone(plain.Num.Mag), 0, 0), append(slices.Clone(plain.Den), 0))}
	for _, common := range []api.Nat{{2}, {15}, {top}, {0, 1}, {7, 3}} {
		all = append(all, limbs(plain.Num.Neg, times(plain.Num.Mag, common), times(plain.Den, common)))
	}
	if rat.Sign(a) == 0 {
		all = append(all, api.Rat{}, by(5, 0), by(-5, 0), limbs(true, nil, api.Nat{3}), limbs(true, api.Nat{0}, api.Nat{1}), limbs(true, nil, nil), limbs(true, api.Nat{9, 9}, api.Nat{0, 0}))
	}
	return all
}

func times(a, b api.Nat) api.Nat {
	n := natToBig(a)
	return natFromBig(n.Mul(n, natToBig(b)))
}

// P3.12, R5: however two numbers are told, each call answers the same.
func TestTellingsAreAlike(t *testing.T) {
	for name, call := range calls() {
		if name == "Make" {
			// It is handed whole numbers, not fractions.
			continue
		}
		for _, x := range samples() {
			want := call(rat.Norm(x[0]), rat.Norm(x[1]))
			for _, a := range tellings(x[0]) {
				for _, b := range tellings(x[1]) {
					for k, got := range call(a, b) {
						is(t, name, got, want[k])
					}
					if rat.Cmp(a, b) != rat.Cmp(x[0], x[1]) || rat.Sign(a) != rat.Sign(x[0]) || rat.IsWhole(a) != rat.IsWhole(x[0]) || rat.Text(a) != rat.Text(x[0]) {
						t.Fatalf("%v and %v are %v", a, b, x)
					}
				}
			}
		}
	}
}

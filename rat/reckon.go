package rat

import (
	"vertex/api"
	"vertex/whole"
)

// Add adds: P3.4.
func Add(a, b api.Rat) api.Rat {
	numA, denA := parts(a)
	numB, denB := parts(b)
	return lowest(whole.Add(whole.Mul(numA, denB), whole.Mul(numB, denA)), whole.Mul(denA, denB))
}

// Sub takes b from a: P3.4.
func Sub(a, b api.Rat) api.Rat {
	// b is a copy, only its limbs are the caller's; Add doesn't change them.
	b.Num.Neg = !b.Num.Neg
	return Add(a, b)
}

// Mul multiplies: P3.4.
func Mul(a, b api.Rat) api.Rat { return lowest(product(a, b)) }

// Quo divides: P3.5.
func Quo(a, b api.Rat) (api.Rat, error) {
	numA, denA := parts(a)
	numB, denB := parts(b)
	return Make(whole.Mul(numA, denB), whole.Mul(denA, numB))
}

// Inv gives one by a: P3.5.
func Inv(a api.Rat) (api.Rat, error) {
	num, den := parts(a)
	return Make(den, num)
}

// Sum adds all: P3.6.
func Sum(l ...api.Rat) api.Rat {
	sum := Of(0)
	for _, a := range l {
		sum = Add(sum, a)
	}
	return sum
}

// Dot adds the products, as far as both lists go: P3.6.
func Dot(a, b []api.Rat) api.Rat {
	sum := Of(0)
	for i := range min(len(a), len(b)) {
		// Add takes a product with common divisors, too: they are looked for once, not twice.
		num, den := product(a[i], b[i])
		sum = Add(sum, api.Rat{Num: num, Den: den.Mag})
	}
	return sum
}

// product multiplies, and leaves the common divisors in.
func product(a, b api.Rat) (num, den api.Int) {
	numA, denA := parts(a)
	numB, denB := parts(b)
	return whole.Mul(numA, numB), whole.Mul(denA, denB)
}

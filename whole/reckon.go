package whole

import (
	"vertex/api"
	"vertex/nat"
)

// Add adds: P2.4.
func Add(a, b api.Int) api.Int {
	if a.Neg == b.Neg {
		return signed(a.Neg, nat.Add(a.Mag, b.Mag))
	}
	// The one that is farther from nought gives the sign.
	if nat.Cmp(a.Mag, b.Mag) < 0 {
		a, b = b, a
	}
	// No error: it is the lesser one that is taken away.
	mag, _ := nat.Sub(a.Mag, b.Mag)
	return signed(a.Neg, mag)
}

// Sub takes b from a: P2.4.
func Sub(a, b api.Int) api.Int {
	// b is a copy, only its limbs are the caller's; Add doesn't change them.
	b.Neg = !b.Neg
	return Add(a, b)
}

// Mul multiplies: P2.4.
func Mul(a, b api.Int) api.Int {
	return signed(a.Neg != b.Neg, nat.Mul(a.Mag, b.Mag))
}

// Sum adds all: P2.4.
func Sum(l ...api.Int) api.Int {
	var sum api.Int
	for _, a := range l {
		sum = Add(sum, a)
	}
	return sum
}

// QuoRem divides towards nought: P2.5.
func QuoRem(a, b api.Int) (q, r api.Int, err error) {
	quo, rem, err := nat.DivMod(a.Mag, b.Mag)
	if err != nil {
		return api.Int{}, api.Int{}, err
	}
	return signed(a.Neg != b.Neg, quo), signed(a.Neg, rem), nil
}

// DivFloor divides downwards: P2.6.
func DivFloor(a, b api.Int) (q, r api.Int, err error) {
	q, r, err = QuoRem(a, b)
	if err != nil {
		return api.Int{}, api.Int{}, err
	}
	// A rest on the other side of nought than b means that q was cut off upwards.
	if Sign(r)*Sign(b) < 0 {
		return Sub(q, Of(1)), Add(r, b), nil
	}
	return q, r, nil
}

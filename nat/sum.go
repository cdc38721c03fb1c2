package nat

import (
	"math/bits"

	"vertex/api"
)

// Add adds: P1.3.
func Add(a, b api.Nat) api.Nat {
	a, b = trim(a), trim(b)
	if len(a) < len(b) {
		a, b = b, a
	}
	sum := make(api.Nat, len(a)+1)
	copy(sum, a)
	addTo(sum, b)
	return trim(sum)
}

// Sub takes b from a: P1.3.
func Sub(a, b api.Nat) (api.Nat, error) {
	if Cmp(a, b) < 0 {
		return nil, api.ErrBelow
	}
	rest := Norm(a)
	takeFrom(rest, trim(b))
	return trim(rest), nil
}

// addTo adds b to a, in place; a is no shorter than b, and what is carried beyond it is lost.
func addTo(a, b api.Nat) {
	var carry uint64
	for i, limb := range b {
		a[i], carry = bits.Add64(a[i], limb, carry)
	}
	for i := len(b); carry > 0 && i < len(a); i++ {
		a[i], carry = bits.Add64(a[i], 0, carry)
	}
}

// takeFrom takes b from a, in place; a is no shorter than b and not below it.
func takeFrom(a, b api.Nat) {
	var borrow uint64
	for i, limb := range b {
		a[i], borrow = bits.Sub64(a[i], limb, borrow)
	}
	for i := len(b); borrow > 0; i++ {
		a[i], borrow = bits.Sub64(a[i], 0, borrow)
	}
}

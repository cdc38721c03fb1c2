package nat

import (
	"math/bits"

	"vertex/api"
)

// Gcd gives the greatest common divisor of all: P1.6.
func Gcd(l ...api.Nat) api.Nat {
	var g api.Nat
	for _, a := range l {
		g = gcdOfTwo(g, a)
	}
	return g
}

// gcdOfTwo takes the factors of two apart: what is left is odd, and a difference of odd numbers can be halved. It works in place on g, which is in the one form.
func gcdOfTwo(g, a api.Nat) api.Nat {
	a = Norm(a)
	switch {
	case len(g) == 0:
		return a
	case len(a) == 0:
		return g
	}
	twos := min(countTwos(g), countTwos(a))
	return trim(shiftUp(gcdOfOdd(leaveOdd(g), leaveOdd(a)), twos))
}

// gcdOfOdd works in place on two odd numbers in the one form; what it gives may be one of the two lists.
func gcdOfOdd(a, b api.Nat) api.Nat {
	for len(a) > 1 || len(b) > 1 {
		if Cmp(a, b) < 0 {
			a, b = b, a
		}
		a = lessen(a, b)
		if len(a) == 0 {
			return b
		}
		a = leaveOdd(a)
	}
	return Of(gcdOfOddWords(a[0], b[0]))
}

// lessen takes b from a once, or as often as it can where once would be too little; it works in place.
func lessen(a, b api.Nat) api.Nat {
	if len(a) > len(b) {
		_, rest, _ := DivMod(a, b)
		return rest
	}
	takeFrom(a, b)
	return trim(a)
}

func gcdOfOddWords(a, b uint64) uint64 {
	for a != b {
		if a < b {
			a, b = b, a
		}
		a -= b
		a >>= bits.TrailingZeros64(a)
	}
	return a
}

// countTwos tells how often a number that isn't nought can be halved.
func countTwos(a api.Nat) int {
	i := 0
	for a[i] == 0 {
		i++
	}
	return i*limbBits + bits.TrailingZeros64(a[i])
}

// leaveOdd halves a number that isn't nought, in place, as often as it can.
func leaveOdd(a api.Nat) api.Nat {
	n := countTwos(a)
	a = a[n/limbBits:]
	shiftDown(a, n%limbBits)
	return trim(a)
}

package nat

import (
	"math/bits"

	"vertex/api"
)

// DivMod divides with a rest: P1.5.
func DivMod(a, b api.Nat) (q, r api.Nat, err error) {
	a, b = trim(a), trim(b)
	switch {
	case len(b) == 0:
		return nil, nil, api.ErrDivide
	case len(a) < len(b):
		return nil, Norm(a), nil
	case len(b) == 1:
		q = Norm(a)
		r = Of(cut(q, b[0]))
		return trim(q), r, nil
	}
	q, r = divide(a, b)
	return q, r, nil
}

// cut divides a by a word that isn't nought, in place, and gives the rest.
func cut(a api.Nat, by uint64) uint64 {
	var rest uint64
	for i := len(a) - 1; i >= 0; i-- {
		a[i], rest = bits.Div64(rest, a[i], by)
	}
	return rest
}

// divide is the long division by a number of two limbs or more; a has as many as b at least, and neither has one of nought at its end.
func divide(a, b api.Nat) (q, r api.Nat) {
	n := len(b)
	// With b's highest bit set a trial is at most two off, and the rest is only shifted along.
	shift := bits.LeadingZeros64(b[n-1])
	rest, by := shiftUp(a, shift), shiftUp(b, shift)[:n]
	q = make(api.Nat, len(a)-n+1)
	for i := len(q) - 1; i >= 0; i-- {
		q[i] = takeMost(rest[i:i+n+1], by)
	}
	shiftDown(rest, shift)
	return trim(q), Norm(rest[:n])
}

// takeMost takes b from a as often as it can, in place, and tells how often: fewer than 2^64 times. a is one limb longer than b, and b's highest bit is set.
func takeMost(a, b api.Nat) uint64 {
	n := len(b)
	times := tryLimb([3]uint64{a[n], a[n-1], a[n-2]}, [2]uint64{b[n-1], b[n-2]})
	var borrow uint64
	a[n], borrow = bits.Sub64(a[n], takeTimes(a, b, times), 0)
	if borrow > 0 {
		// The limbs that the trial doesn't look at made it one too great.
		times--
		addTo(a, b)
	}
	return times
}

// takeTimes takes b times limb from the first limbs of a, as many as b has, in place, and gives what is borrowed from the next one.
func takeTimes(a, b api.Nat, limb uint64) uint64 {
	var carry, over uint64
	for i, x := range b {
		high, low := bits.Mul64(x, limb)
		low, over = bits.Add64(low, carry, 0)
		high += over
		a[i], over = bits.Sub64(a[i], low, 0)
		carry = high + over
	}
	return carry
}

// tryLimb guesses a limb of a quotient by the first three limbs of what is divided and the first two of what divides it, the highest first. The guess is right or one too great.
func tryLimb(a [3]uint64, b [2]uint64) uint64 {
	var guess, rest, over uint64
	if a[0] < b[0] {
		guess, rest = bits.Div64(a[0], a[1], b[0])
	} else {
		// They are the same, and a limb holds no more than this.
		guess = 1<<limbBits - 1
		rest, over = bits.Add64(a[1], b[0], 0)
	}
trial:
	for over == 0 {
		high, low := bits.Mul64(guess, b[1])
		switch {
		case high < rest:
			break trial
		case high == rest && low <= a[2]:
			break trial
		}
		guess--
		rest, over = bits.Add64(rest, b[0], 0)
	}
	return guess
}

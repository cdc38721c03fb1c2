package nat

import (
	"math/bits"

	"vertex/api"
)

// Mul multiplies: P1.4.
func Mul(a, b api.Nat) api.Nat {
	a, b = trim(a), trim(b)
	product := make(api.Nat, len(a)+len(b))
	for i, limb := range a {
		product[i+len(b)] = addTimes(product[i:], b, limb)
	}
	return trim(product)
}

// Pow gives a power: P1.8.
func Pow(a api.Nat, n int) (api.Nat, error) {
	if n < 0 {
		return nil, api.ErrArg
	}
	// Divided, since Bits(a) times n may be above what an int holds.
	if size := Bits(a); size > 0 && n > api.MaxBits/size {
		return nil, api.ErrLong
	}
	power := Of(1)
	for i := bits.Len(uint(n)) - 1; i >= 0; i-- {
		power = Mul(power, power)
		if n>>i&1 == 1 {
			power = Mul(power, a)
		}
	}
	return power, nil
}

// Choose tells in how many ways k things are chosen of n: P1.9.
func Choose(n, k int) (api.Nat, error) {
	switch {
	case n < 0 || k < 0:
		return nil, api.ErrArg
	case n > api.MaxChoose:
		return nil, api.ErrLong
	case k > n:
		return nil, nil
	}
	ways := Of(1)
	for i := 1; i <= min(k, n-k); i++ {
		// What stands here is Choose(n, i): no division leaves a rest.
		ways = scale(ways, uint64(n-i+1), 0)
		cut(ways, uint64(i))
		ways = trim(ways)
	}
	return ways, nil
}

// addTimes adds b times limb to the first limbs of a, as many as b has, in place, and gives what is carried to the next one.
func addTimes(a, b api.Nat, limb uint64) uint64 {
	var carry, over uint64
	for i, x := range b {
		high, low := bits.Mul64(x, limb)
		low, over = bits.Add64(low, carry, 0)
		high += over
		a[i], over = bits.Add64(a[i], low, 0)
		carry = high + over
	}
	return carry
}

// scale gives a times by and more, in place as far as a goes; the list may be a limb longer.
func scale(a api.Nat, by, more uint64) api.Nat {
	carry := more
	for i, x := range a {
		high, low := bits.Mul64(x, by)
		low, over := bits.Add64(low, carry, 0)
		a[i], carry = low, high+over
	}
	if carry > 0 {
		a = append(a, carry)
	}
	return a
}

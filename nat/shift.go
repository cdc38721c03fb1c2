package nat

import "vertex/api"

// Shl multiplies by two, n times: P1.7.
func Shl(a api.Nat, n int) (api.Nat, error) {
	switch {
	case n < 0:
		return nil, api.ErrArg
	case n > api.MaxShift:
		return nil, api.ErrLong
	}
	return trim(shiftUp(trim(a), n)), nil
}

// Shr halves, n times: P1.7.
func Shr(a api.Nat, n int) (api.Nat, error) {
	if n < 0 {
		return nil, api.ErrArg
	}
	if n/limbBits >= len(a) {
		return nil, nil
	}
	rest := Norm(a[n/limbBits:])
	shiftDown(rest, n%limbBits)
	return trim(rest), nil
}

// shiftUp gives a times 2^n in a new list, with a limb for what goes beyond a's last one, be it nought or not.
func shiftUp(a api.Nat, n int) api.Nat {
	low, up := n/limbBits, n%limbBits
	out := make(api.Nat, low+len(a)+1)
	for i, limb := range a {
		out[low+i] |= limb << up
		out[low+i+1] = limb >> (limbBits - up)
	}
	return out
}

// shiftDown divides a by 2^n, n below 64, in place.
func shiftDown(a api.Nat, n int) {
	for i := range a {
		a[i] >>= n
		if i+1 < len(a) {
			a[i] |= a[i+1] << (limbBits - n)
		}
	}
}

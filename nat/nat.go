// Package nat is layer 1, natural numbers of limbs: see shared/doc/01-nat.md.
//
// Inner functions work in place on lists that the package made itself; an exported one copies what it is handed ahead of that.
package nat

import (
	"math/bits"

	"vertex/api"
)

const limbBits = 64

// Norm gives a number in its one form: P1.1.
func Norm(a api.Nat) api.Nat {
	a = trim(a)
	b := make(api.Nat, len(a))
	copy(b, a)
	return b
}

// Of gives the number of a word: P1.1.
func Of(v uint64) api.Nat {
	if v == 0 {
		return nil
	}
	return api.Nat{v}
}

// Uint64 gives a number as a word, if it fits: P1.1.
func Uint64(a api.Nat) (uint64, bool) {
	a = trim(a)
	switch len(a) {
	case 0:
		return 0, true
	case 1:
		return a[0], true
	}
	return 0, false
}

// Bits tells how many bits a number has: P1.2.
func Bits(a api.Nat) int {
	a = trim(a)
	if len(a) == 0 {
		return 0
	}
	last := len(a) - 1
	return last*limbBits + bits.Len64(a[last])
}

// Cmp tells which is greater: -1, 0, 1: P1.2.
func Cmp(a, b api.Nat) int {
	a, b = trim(a), trim(b)
	if len(a) != len(b) {
		return order(len(a) < len(b))
	}
	for i := len(a) - 1; i >= 0; i-- {
		if a[i] != b[i] {
			return order(a[i] < b[i])
		}
	}
	return 0
}

// order tells two that differ by which is less.
func order(firstIsLess bool) int {
	if firstIsLess {
		return -1
	}
	return 1
}

// trim leaves the limbs of nought at the end out; the list that it gives is a part of a.
func trim(a api.Nat) api.Nat {
	n := len(a)
	for n > 0 && a[n-1] == 0 {
		n--
	}
	return a[:n]
}

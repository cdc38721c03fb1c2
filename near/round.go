package near

import (
	"vertex/api"
	"vertex/nat"
	"vertex/rat"
)

// How far a number is past one step of a ladder, on the way to the next step.
const (
	atStep = iota
	beforeMiddle
	atMiddle
	behindMiddle
)

// Float gives the nearest float, and on which side of the number it lies: P4.1.
func Float(r api.Rat) (float64, int) {
	sign, rank, past := find(r)
	nearest := nearer(rank, past)
	switch {
	case past == atStep:
		return ranked(sign, rank), 0
	case nearest == rank:
		return ranked(sign, nearest), -sign
	}
	return ranked(sign, nearest), sign
}

// Down gives the greatest float that isn't above the number: P4.2.
func Down(r api.Rat) float64 { return onSide(r, -1) }

// Up gives the least float that isn't below the number: P4.2.
func Up(r api.Rat) float64 { return onSide(r, 1) }

// onSide gives the float that is r, or else the next one on that side of r.
func onSide(r api.Rat, side int) float64 {
	sign, rank, past := find(r)
	// The float of that rank lies towards nought.
	if past != atStep && sign == side {
		rank++
	}
	return ranked(sign, rank)
}

// nearer gives the nearest step to what is past one: of two that are equally near the even one.
func nearer(step uint64, past int) uint64 {
	if past == behindMiddle || past == atMiddle && step%2 == 1 {
		return step + 1
	}
	return step
}

// find gives a number's sign, the greatest rank of a finite float that is not further from nought, and how far the number is past that float.
func find(r api.Rat) (sign int, rank uint64, past int) {
	sign = rat.Sign(r)
	if sign == 0 {
		return 0, 0, atStep
	}
	rank, past = rankBelow(r.Num.Mag, r.Den)
	return sign, rank, past
}

// rankBelow is find for num by den, neither of them nought.
func rankBelow(num, den api.Nat) (rank uint64, past int) {
	// The number is above 2^(size-1) and below 2^(size+1). One far beyond the floats would ask for a longer shift than there is.
	size := nat.Bits(num) - nat.Bits(den)
	if size <= beyond {
		if rank, past = rankOfSize(num, den, size); rank < infinite {
			return rank, past
		}
	}
	return infinite - 1, behindMiddle
}

// rankOfSize is rankBelow for a number of that size, as if there were finite floats beyond the greatest.
func rankOfSize(num, den api.Nat, size int) (uint64, int) {
	for e := max(size-mantissa, lowest); ; e++ {
		m, past := count(scale(num, den, -e, twos))
		// If the number is in the upper half of what its size allows, m has a bit too many at first.
		if m>>mantissa == 0 {
			return join(m, e), past
		}
	}
}

// count gives how often den goes into num, which is less than 2^63 times, and how far num is past that.
func count(num, den api.Nat) (times uint64, past int) {
	// No error: den isn't nought.
	quotient, rest, _ := nat.DivMod(twos(num, 1), den)
	halves, _ := nat.Uint64(quotient)
	past = atStep
	if halves%2 == 1 {
		past = atMiddle
	}
	if nat.Bits(rest) > 0 {
		past++
	}
	return halves / 2, past
}

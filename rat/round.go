package rat

import (
	"vertex/api"
	"vertex/nat"
	"vertex/whole"
)

// Floor gives the greatest whole number not above it: P3.8.
func Floor(a api.Rat) api.Int {
	// No error: the second of parts is above nought.
	q, _, _ := whole.DivFloor(parts(a))
	return q
}

// Ceil gives the least whole number not below it: P3.8.
func Ceil(a api.Rat) api.Int { return whole.Neg(Floor(Neg(a))) }

// IsWhole tells whether it is a whole number: P3.8.
func IsWhole(a api.Rat) bool {
	// No error: the second of parts is above nought.
	_, r, _ := whole.QuoRem(parts(a))
	return whole.Sign(r) == 0
}

// Simplest gives the simplest number from lo to hi: P3.9.
func Simplest(lo, hi api.Rat) (api.Rat, error) {
	switch {
	case Cmp(lo, hi) > 0:
		return api.Rat{}, api.ErrArg
	case Sign(lo) > 0:
		return simplestAbove(lo, hi), nil
	case Sign(hi) < 0:
		return Neg(simplestAbove(Neg(hi), Neg(lo))), nil
	}
	return Of(0), nil
}

// simplestAbove is Simplest where lo is above nought. The two are taken apart as continued fractions as long as these agree; where they no longer do, the least whole number that isn't below lo is in reach of hi, and ends the answer's.
func simplestAbove(lo, hi api.Rat) api.Rat {
	c := emptyChain()
	for {
		// No error: no Den is nought, as hi has a rest where lo has one and their whole parts are the same.
		low, lowRest, _ := nat.DivMod(lo.Num.Mag, lo.Den)
		high, highRest, _ := nat.DivMod(hi.Num.Mag, hi.Den)
		switch {
		case nat.Bits(lowRest) == 0:
			return c.with(low).value()
		case nat.Cmp(low, high) < 0:
			return c.with(nat.Add(low, nat.Of(1))).value()
		}
		c = c.with(low)
		// The rests are turned upside down, and so it is hi's that becomes the lesser one.
		lo, hi = over(hi.Den, highRest), over(lo.Den, lowRest)
	}
}

func over(num, den api.Nat) api.Rat { return api.Rat{Num: api.Int{Mag: num}, Den: den} }

// chain is a continued fraction as far as it is known: its value, and, as the next term asks for it, its value without the last term.
type chain struct {
	num, den         api.Nat
	numLess, denLess api.Nat
}

func emptyChain() chain { return chain{num: nat.Of(1), denLess: nat.Of(1)} }

func (c chain) with(term api.Nat) chain {
	return chain{
		num:     nat.Add(nat.Mul(term, c.num), c.numLess),
		den:     nat.Add(nat.Mul(term, c.den), c.denLess),
		numLess: c.num,
		denLess: c.den,
	}
}

// value is in the one form: a chain's num and den have no common divisor, whatever its terms.
func (c chain) value() api.Rat { return over(c.num, c.den) }

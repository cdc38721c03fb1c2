package trim

import (
	"vertex/api"
	"vertex/rat"
)

// letsNought tells whether nought keeps to those of two bounds that are there.
func letsNought(lo, hi api.Bound) bool {
	above := lo.Has && rat.Sign(lo.At) > 0
	below := hi.Has && rat.Sign(hi.At) < 0
	return !above && !below
}

// areCrossed tells whether both bounds are there, the Lo above the Hi.
func areCrossed(lo, hi api.Bound) bool { return lo.Has && hi.Has && rat.Cmp(lo.At, hi.At) > 0 }

// areAlike tells whether both bounds are there, and the same number.
func areAlike(lo, hi api.Bound) bool { return lo.Has && hi.Has && rat.Cmp(lo.At, hi.At) == 0 }

// given are the bounds that a row gives to the variable of its only term.
func given(row api.Row, coef api.Rat) (lo, hi api.Bound) {
	lo, hi = divided(row.Lo, coef), divided(row.Hi, coef)
	if rat.Sign(coef) < 0 {
		lo, hi = hi, lo
	}
	return lo, hi
}

// divided gives a bound, where it is there, by a number that isn't nought.
func divided(b api.Bound, by api.Rat) api.Bound {
	if b.Has {
		b.At, _ = rat.Quo(b.At, by)
	}
	return b
}

// less gives a bound, where it is there, with an amount less.
func less(b api.Bound, amount api.Rat) api.Bound {
	if b.Has {
		b.At = rat.Sub(b.At, amount)
	}
	return b
}

// tighter gives the tighter one of a variable's own bound and a row's, and whether that is the row's. Inward is 1 of Los, -1 of His: whither a bound becomes tighter.
func tighter(own, row api.Bound, inward int) (api.Bound, bool) {
	if row.Has && (!own.Has || rat.Cmp(row.At, own.At) == inward) {
		return row, true
	}
	return own, false
}

// best is the bound at which a variable's part of the objective is best; where it has none, any number will do.
func best(v api.Var, greatest bool) api.Bound {
	side := rat.Sign(v.Obj)
	if greatest {
		side = -side
	}
	switch {
	case side > 0:
		return v.Lo
	case side < 0:
		return v.Hi
	case v.Lo.Has:
		return v.Lo
	case v.Hi.Has:
		return v.Hi
	}
	return api.Bound{Has: true, At: rat.Of(0)}
}

package trim

import (
	"vertex/api"
	"vertex/rat"
)

// step let a variable or a row go; back gives its number to a certificate that has those of all that was there behind it.
type step struct {
	back func(c *api.Cert)
}

// stand puts a variable at the number at which it went.
func stand(j int, at api.Rat) func(c *api.Cert) {
	return func(c *api.Cert) { c.X[j], c.Ray[j] = rat.Norm(at), rat.Of(0) }
}

// bearNothing gives a row without terms its multiplier.
func bearNothing(i int) func(c *api.Cert) {
	return func(c *api.Cert) { c.Y[i] = rat.Of(0) }
}

// leftOf tells what is left of a variable, with the multipliers that are known; where no point is to hold, the objective doesn't count.
func leftOf(obj api.Rat, column []entry) func(c *api.Cert) api.Rat {
	return func(c *api.Cert) api.Rat {
		rest := obj
		if c.Verdict == api.Infeasible {
			rest = rat.Of(0)
		}
		// Of rows that went ahead of the step that is gone back over, and of its own, the multiplier is 0 as yet.
		for _, e := range column {
			rest = rat.Sub(rest, rat.Mul(c.Y[e.row], e.coef))
		}
		return rest
	}
}

// bearRest gives a row with one term the multiplier that leaves nothing of the variable, if the bound that is asked for was the row's: P15.5.
func bearRest(i int, coef api.Rat, greatest bool, rest func(c *api.Cert) api.Rat, gaveLo, gaveHi bool) func(c *api.Cert) {
	return func(c *api.Cert) {
		d := rest(c)
		side := rat.Sign(d)
		if greatest && c.Verdict != api.Infeasible {
			side = -side
		}
		c.Y[i] = rat.Of(0)
		if side > 0 && gaveLo || side < 0 && gaveHi {
			// No error: the coefficient of a term isn't nought.
			c.Y[i], _ = rat.Quo(d, coef)
		}
	}
}

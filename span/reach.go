package span

import (
	"vertex/api"
	"vertex/rat"
)

// reach is how far something may go, down to lo and up to hi.
type reach struct{ lo, hi api.Bound }

// end is one of the two ends of a reach.
type end struct {
	of       func(r *reach) *api.Bound
	tightest func(limits ...api.Rat) (api.Rat, bool)
}

func lower() end {
	return end{of: func(r *reach) *api.Bound { return &r.lo }, tightest: rat.Greatest}
}

func upper() end {
	return end{of: func(r *reach) *api.Bound { return &r.hi }, tightest: rat.Least}
}

// condition is a limit of a change, and which end of its reach it sets.
type condition struct {
	limit api.Rat
	sets  end
}

// notBelow gives the condition on a change by which a number, which goes so many times as far as the change, doesn't come below nought; none, if it stays where it is.
func notBelow(number, times api.Rat) []condition {
	limit, err := rat.Quo(rat.Neg(number), times)
	switch {
	case err != nil:
		return nil
	case rat.Sign(times) > 0:
		return []condition{{limit, lower()}}
	}
	return []condition{{limit, upper()}}
}

// gather gives the reach of a change on which there are these conditions.
func gather(conditions ...condition) (r reach) {
	for _, c := range conditions {
		bound, limit := c.sets.of(&r), c.limit
		if bound.Has {
			limit, _ = c.sets.tightest(bound.At, limit)
		}
		*bound = api.Bound{Has: true, At: limit}
	}
	return r
}

// from gives where the changes of a reach lead to from a number.
func (r reach) from(number api.Rat) reach {
	return reach{moved(r.lo, number), moved(r.hi, number)}
}

// moved gives a bound, where it is there, so much further up.
func moved(b api.Bound, by api.Rat) api.Bound {
	if b.Has {
		b.At = rat.Add(b.At, by)
	}
	return b
}

// has tells whether a number lies within a reach.
func (r reach) has(a api.Rat) bool {
	below := r.lo.Has && rat.Cmp(a, r.lo.At) < 0
	above := r.hi.Has && rat.Cmp(a, r.hi.At) > 0
	return !below && !above
}

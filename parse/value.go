package parse

import (
	"vertex/api"
	"vertex/rat"
)

// value is what a sum or a variable is held against: a number, or, if endless, plus or minus infinity, whose word stands at a token.
type value struct {
	number  api.Rat
	endless bool
	minus   bool
	at      api.Token
}

// value reads signs and a number, or signs and infinity. At a name it gives up with the error that is due for one there.
func (r *reader) value(forName error) value {
	minus := r.signs()
	switch {
	case r.is(api.TNumber):
		return value{number: signed(minus, r.take().Num)}
	case r.isWord(api.WInf):
		return value{endless: true, minus: minus, at: r.take()}
	case r.is(api.TName):
		giveUp(r.now(), forName)
	default:
		giveUp(r.now(), api.ErrDue)
	}
	return value{}
}

// infinityAhead tells whether signs, or none, and infinity stand there.
func (r *reader) infinityAhead() bool {
	i := r.next
	for isSign(r.tokens[i]) {
		i++
	}
	return isWord(r.tokens[i], api.WInf)
}

// turned gives a relation as it is read from its right side.
func turned(relation int) int {
	switch relation {
	case api.TLess:
		return api.TGreater
	case api.TGreater:
		return api.TLess
	}
	return relation
}

// setsLo and setsHi tell which bounds a value gives to what stands ahead of the relation.
func setsLo(relation int) bool { return relation != api.TLess }

func setsHi(relation int) bool { return relation != api.TGreater }

// bind gives the bounds lo and hi of what stands ahead of a relation, once the value behind it has set those that it sets; infinity sets one to none. An infinity that would leave no number at all is given up.
func (v value) bind(relation int, lo, hi api.Bound) (api.Bound, api.Bound) {
	if v.endless && !v.leavesOpen(relation) {
		giveUp(v.at, api.ErrDue)
	}
	if setsLo(relation) {
		lo = v.bound()
	}
	if setsHi(relation) {
		hi = v.bound()
	}
	return lo, hi
}

// leavesOpen tells whether an infinity is plus infinity as the upper bound, or minus infinity as the lower one.
func (v value) leavesOpen(relation int) bool {
	if v.minus {
		return relation == api.TGreater
	}
	return relation == api.TLess
}

// bound gives the value as a bound, whose limbs are its own each time.
func (v value) bound() api.Bound {
	if v.endless {
		return api.Bound{}
	}
	return api.Bound{Has: true, At: rat.Norm(v.number)}
}

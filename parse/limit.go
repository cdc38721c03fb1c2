package parse

import "vertex/api"

// limits reads limits up to a word that begins none: P6.5.
func (r *reader) limits() []api.Limit {
	var limits []api.Limit
	for !r.is(api.TWord) || r.isWord(api.WInf) {
		limits = append(limits, r.limit())
	}
	return limits
}

func (r *reader) limit() api.Limit {
	if r.is(api.TName) {
		return r.limitFromName()
	}
	ahead := r.value(api.ErrDue)
	relation := r.relation()
	limit := limitOf(r.name())
	set(&limit, turned(relation), ahead)
	if r.isRelation() {
		r.secondRelation(relation)
		set(&limit, relation, r.value(api.ErrDue))
	}
	return limit
}

// limitFromName reads a limit that begins with its name.
func (r *reader) limitFromName() api.Limit {
	name := r.name()
	if r.isWord(api.WFree) {
		r.take()
		return free(name)
	}
	limit := limitOf(name)
	relation := r.relation()
	set(&limit, relation, r.value(api.ErrDue))
	return limit
}

// limitOf gives the limit of a name that sets nothing as yet.
func limitOf(name api.Mention) api.Limit {
	return api.Limit{Name: name.Name, Line: name.Line, Col: name.Col}
}

// free gives the limit that sets both bounds to none.
func free(name api.Mention) api.Limit {
	limit := limitOf(name)
	limit.SetLo, limit.SetHi = true, true
	return limit
}

// set sets the bounds that a value gives to the name ahead of the relation, and leaves the other one.
func set(limit *api.Limit, relation int, v value) {
	limit.Lo, limit.Hi = v.bind(relation, limit.Lo, limit.Hi)
	limit.SetLo = limit.SetLo || setsLo(relation)
	limit.SetHi = limit.SetHi || setsHi(relation)
}

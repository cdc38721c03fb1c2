package parse

import "vertex/api"

// condition reads a condition: P6.3, P6.4.
func (r *reader) condition() api.Claim {
	first := r.now()
	claim := api.Claim{Name: r.label(), Line: first.Line, Col: first.Col}
	sum := r.sum()
	relation := r.relation()
	if !named(sum) && !r.infinityAhead() {
		r.sumBehind(sum, relation, &claim)
		return claim
	}
	claim.Items = sum
	v := r.value(api.ErrSides)
	bind(&claim, relation, v)
	// Behind infinity the next condition is due, and a relation begins none.
	if !v.endless && r.isRelation() {
		giveUp(r.now(), api.ErrSides)
	}
	return claim
}

// sumBehind reads the second side, which is a sum, behind a first one without a name; and a third one, if a relation follows.
func (r *reader) sumBehind(ahead []api.Item, relation int, claim *api.Claim) {
	sum := r.sum()
	three := r.isRelation()
	if !three && !named(sum) {
		claim.Items = ahead
		bind(claim, relation, total(sum))
		return
	}
	claim.Items = sum
	bind(claim, turned(relation), total(ahead))
	if three {
		r.secondRelation(relation)
		bind(claim, relation, r.value(api.ErrSides))
	}
}

// bind sets the bounds that a value gives to the sum ahead of the relation, and leaves the other one.
func bind(claim *api.Claim, relation int, v value) {
	claim.Lo, claim.Hi = v.bind(relation, claim.Lo, claim.Hi)
}

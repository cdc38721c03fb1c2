package parse

import (
	"vertex/api"
	"vertex/rat"
)

// signs takes all signs that stand there, and tells whether they are minus, all together.
func (r *reader) signs() (minus bool) {
	for r.isSign() {
		if r.take().Kind == api.TMinus {
			minus = !minus
		}
	}
	return minus
}

// signed gives a number, or 0 less it.
func signed(minus bool, number api.Rat) api.Rat {
	if minus {
		return rat.Neg(number)
	}
	return number
}

// sum reads summands as long as a sign follows.
func (r *reader) sum() []api.Item {
	items := []api.Item{r.summand()}
	for r.isSign() {
		items = append(items, r.summand())
	}
	return items
}

func (r *reader) summand() api.Item {
	first := r.now()
	item := api.Item{Coef: rat.Of(1), Line: first.Line, Col: first.Col}
	minus := r.signs()
	if !r.is(api.TNumber) {
		item.Name = r.due(api.TName).Text
	} else {
		item.Coef = r.take().Num
		// A name with a colon behind it is the next condition's.
		if r.is(api.TName) && !r.isLabel() {
			item.Name = r.take().Text
		}
	}
	item.Coef = signed(minus, item.Coef)
	return item
}

// named tells whether a name stands in a sum.
func named(sum []api.Item) bool {
	for _, item := range sum {
		if item.Name != "" {
			return true
		}
	}
	return false
}

// total gives a sum without names as the number that it is.
func total(sum []api.Item) value {
	var coefs []api.Rat
	for _, item := range sum {
		coefs = append(coefs, item.Coef)
	}
	return value{number: rat.Sum(coefs...)}
}

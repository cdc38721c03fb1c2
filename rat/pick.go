package rat

import "vertex/api"

// Least gives the least one, if there is one: P3.7.
func Least(l ...api.Rat) (api.Rat, bool) {
	return best(l, func(a, b api.Rat) bool { return Cmp(a, b) < 0 })
}

// Greatest gives the greatest one, if there is one: P3.7.
func Greatest(l ...api.Rat) (api.Rat, bool) {
	return best(l, func(a, b api.Rat) bool { return Cmp(a, b) > 0 })
}

// best looks through a list for one that no other is better than.
func best(l []api.Rat, better func(a, b api.Rat) bool) (api.Rat, bool) {
	if len(l) == 0 {
		return api.Rat{}, false
	}
	found := l[0]
	for _, a := range l[1:] {
		if better(a, found) {
			found = a
		}
	}
	return Norm(found), true
}

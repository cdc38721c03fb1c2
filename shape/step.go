package shape

import (
	"vertex/api"
	"vertex/rat"
)

// step is a variable's way there and back: its columns, and how it and they tell one another.
type step struct {
	plus, minus int                           // minus is none, but of a free variable
	point       func(y []api.Rat) api.Rat     // the variable, of the columns' numbers
	ray         func(z []api.Rat) api.Rat     // the same without what is constant
	split       func(coef api.Rat) []api.Term // the variable's coefficient, as its columns'
}

// addSteps gives each variable its columns, in order: P10.2.
func (s *Shape) addSteps(vars []api.Var) {
	for _, v := range vars {
		switch {
		case v.Lo.Has:
			s.steps = append(s.steps, upFrom(v.Lo.At, s.newColumn()))
		case v.Hi.Has:
			s.steps = append(s.steps, downFrom(v.Hi.At, s.newColumn()))
		default:
			s.steps = append(s.steps, free(s.newColumn(), s.newColumn()))
		}
	}
}

// newColumn gives the place of one more column.
func (s *Shape) newColumn() int {
	s.columns++
	return s.columns - 1
}

// upFrom is the step of a variable that is lo + u.
func upFrom(lo api.Rat, u int) step {
	return step{
		plus:  u,
		minus: none,
		point: func(y []api.Rat) api.Rat { return rat.Add(lo, numberAt(y, u)) },
		ray:   func(z []api.Rat) api.Rat { return numberAt(z, u) },
		split: func(coef api.Rat) []api.Term { return []api.Term{{Var: u, Coef: coef}} },
	}
}

// downFrom is the step of a variable that is hi - u.
func downFrom(hi api.Rat, u int) step {
	return step{
		plus:  u,
		minus: none,
		point: func(y []api.Rat) api.Rat { return rat.Sub(hi, numberAt(y, u)) },
		ray:   func(z []api.Rat) api.Rat { return rat.Neg(numberAt(z, u)) },
		split: func(coef api.Rat) []api.Term { return []api.Term{{Var: u, Coef: rat.Neg(coef)}} },
	}
}

// free is the step of a variable without bounds, in which nothing is constant.
func free(plus, minus int) step {
	apart := func(y []api.Rat) api.Rat { return rat.Sub(numberAt(y, plus), numberAt(y, minus)) }
	return step{
		plus:  plus,
		minus: minus,
		point: apart,
		ray:   apart,
		split: func(coef api.Rat) []api.Term {
			return []api.Term{{Var: plus, Coef: coef}, {Var: minus, Coef: rat.Neg(coef)}}
		},
	}
}

package model

import (
	"maps"
	"slices"
	"strings"

	"vertex/api"
	"vertex/rat"
)

// Tidy gives a problem in its one form: P7.6.
func Tidy(p api.Problem) api.Problem {
	tidy := api.Problem{Max: p.Max, Name: strings.Clone(p.Name), Const: rat.Norm(p.Const)}
	for _, v := range p.Vars {
		tidy.Vars = append(tidy.Vars, api.Var{
			Name:  strings.Clone(v.Name),
			Obj:   rat.Norm(v.Obj),
			Lo:    tidyBound(v.Lo),
			Hi:    tidyBound(v.Hi),
			Whole: v.Whole,
		})
	}
	for _, row := range p.Rows {
		tidy.Rows = append(tidy.Rows, api.Row{
			Name:  strings.Clone(row.Name),
			Terms: gather(row.Terms, len(p.Vars)),
			Lo:    tidyBound(row.Lo),
			Hi:    tidyBound(row.Hi),
		})
	}
	return tidy
}

func tidyBound(b api.Bound) api.Bound {
	if !b.Has {
		return api.Bound{At: rat.Of(0)}
	}
	return api.Bound{Has: true, At: rat.Norm(b.At)}
}

// gather adds up the terms of each of n variables, and tells those that don't come to nought by rising Var.
func gather(terms []api.Term, n int) []api.Term {
	coefs := map[int][]api.Rat{}
	for _, term := range terms {
		if 0 <= term.Var && term.Var < n {
			coefs[term.Var] = append(coefs[term.Var], term.Coef)
		}
	}
	var gathered []api.Term
	for _, v := range slices.Sorted(maps.Keys(coefs)) {
		if sum := rat.Sum(coefs[v]...); rat.Sign(sum) != 0 {
			gathered = append(gathered, api.Term{Var: v, Coef: sum})
		}
	}
	return gathered
}

package mps

import (
	"vertex/api"
	"vertex/model"
	"vertex/rat"
)

// row is what a text says of a row or of the objective. reach is its RANGE, if it is ranged.
type row struct {
	name, kind string
	terms      []api.Term
	rhs        api.Rat
	ranged     bool
	reach      api.Rat
}

func boundOf(at api.Rat) api.Bound { return api.Bound{Has: true, At: at} }

func (x row) hasBounds() bool { return x.kind != "N" }

// bounds gives a row's bounds. A RANGE adds the other one to that of the RHS; of an E, which has both there, it moves the one on its side.
func (x row) bounds() (lo, hi api.Bound) {
	if x.kind == "G" || x.kind == "E" {
		lo = boundOf(x.rhs)
	}
	if x.kind == "L" || x.kind == "E" {
		hi = boundOf(x.rhs)
	}
	switch {
	case !x.ranged:
	case x.kind == "L":
		lo = boundOf(rat.Sub(x.rhs, x.reach))
	case x.kind == "E" && rat.Sign(x.reach) < 0:
		lo = boundOf(rat.Add(x.rhs, x.reach))
	default:
		hi = boundOf(rat.Add(x.rhs, x.reach))
	}
	return lo, hi
}

// problem makes the problem of all that was said, the reader's own variables in it; Tidy copies them.
func (r *reader) problem() api.Problem {
	p := api.Problem{Max: r.max, Vars: r.vars}
	for i, x := range r.rows {
		if i == r.objective {
			setObjective(&p, x)
			continue
		}
		lo, hi := x.bounds()
		p.Rows = append(p.Rows, api.Row{Name: x.name, Terms: x.terms, Lo: lo, Hi: hi})
	}
	return model.Tidy(p)
}

// setObjective makes a row a problem's objective.
func setObjective(p *api.Problem, x row) {
	if x.name != unnamed {
		p.Name = x.name
	}
	p.Const = rat.Neg(x.rhs)
	for _, term := range x.terms {
		v := &p.Vars[term.Var]
		v.Obj = rat.Add(v.Obj, term.Coef)
	}
}

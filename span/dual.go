package span

import (
	"strconv"

	"vertex/api"
	"vertex/model"
	"vertex/rat"
)

// Dual gives the problem whose value bounds this one's from the other side: P17.8.
func Dual(p api.Problem) api.Problem {
	p = model.Tidy(p)
	d := api.Problem{Max: !p.Max, Const: p.Const}
	for j, v := range p.Vars {
		obj := api.Bound{Has: true, At: v.Obj}
		d.Rows = append(d.Rows, api.Row{Name: "x" + strconv.Itoa(j), Lo: obj, Hi: obj})
	}
	for i, row := range p.Rows {
		addBounds(&d, "r", i, row)
	}
	for j, v := range p.Vars {
		// A variable's bounds are those of a row of that variable alone.
		addBounds(&d, "v", j, api.Row{Terms: []api.Term{{Var: j, Coef: rat.Of(1)}}, Lo: v.Lo, Hi: v.Hi})
	}
	return model.Tidy(d)
}

// addBounds gives a dual the variables that stand for the bounds of a row of the other problem. A Lo keeps a Min problem's value up, as a Hi keeps a Max one's down: that one counts as it is, the other one turned.
func addBounds(d *api.Problem, kind string, place int, row api.Row) {
	plus, minus := row.Lo, row.Hi
	if !d.Max {
		plus, minus = row.Hi, row.Lo
	}
	number := strconv.Itoa(place)
	if plus.Has {
		addVar(d, kind+"p"+number, plus.At, row.Terms, rat.Norm)
	}
	if minus.Has {
		addVar(d, kind+"m"+number, minus.At, row.Terms, rat.Neg)
	}
}

// addVar gives a dual a variable for one bound of a row of the other problem, whose terms tell in which of the dual's rows it stands; all in one sense.
func addVar(d *api.Problem, name string, at api.Rat, terms []api.Term, inSense func(api.Rat) api.Rat) {
	place := len(d.Vars)
	d.Vars = append(d.Vars, api.Var{Name: name, Obj: inSense(at), Lo: api.Bound{Has: true}})
	for _, term := range terms {
		row := &d.Rows[term.Var]
		row.Terms = append(row.Terms, api.Term{Var: place, Coef: inSense(term.Coef)})
	}
}

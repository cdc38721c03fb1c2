package trim

import (
	"slices"

	"vertex/api"
	"vertex/model"
	"vertex/rat"
)

// work is a problem that is being trimmed.
type work struct {
	problem api.Problem // in its one form; its bounds and Const change, its rows keep their terms
	columns [][]entry   // one a variable
	terms   []int       // of each row, how many of its terms are of variables that are there
	varGone []bool
	rowGone []bool
	steps   []step
}

// entry is a coefficient of a variable, in a row.
type entry struct {
	row  int
	coef api.Rat
}

func begin(p api.Problem) *work {
	p = model.Tidy(p)
	w := &work{
		problem: p,
		columns: make([][]entry, len(p.Vars)),
		terms:   make([]int, len(p.Rows)),
		varGone: make([]bool, len(p.Vars)),
		rowGone: make([]bool, len(p.Rows)),
	}
	for i, row := range p.Rows {
		w.terms[i] = len(row.Terms)
		for _, term := range row.Terms {
			w.columns[term.Var] = append(w.columns[term.Var], entry{row: i, coef: term.Coef})
		}
	}
	return w
}

// pass looks once at all that is there, and tells whether something went.
func (w *work) pass() bool {
	before := len(w.steps)
	for i := range w.problem.Rows {
		if !w.rowGone[i] {
			w.lookAtRow(i)
		}
	}
	for j := range w.problem.Vars {
		if !w.varGone[j] {
			w.lookAtVar(j)
		}
	}
	return len(w.steps) > before
}

// lookAtRow does what can be done with a row: P15.1.
func (w *work) lookAtRow(i int) {
	switch w.terms[i] {
	case 0:
		if row := w.problem.Rows[i]; letsNought(row.Lo, row.Hi) {
			w.letRowGo(i, bearNothing(i))
		}
	case 1:
		w.makeBound(i, w.onlyTerm(i))
	}
}

// onlyTerm gives the term of a row that has but one.
func (w *work) onlyTerm(i int) api.Term {
	terms := w.problem.Rows[i].Terms
	return terms[slices.IndexFunc(terms, func(term api.Term) bool { return !w.varGone[term.Var] })]
}

// makeBound makes bounds of its variable of a row with one term, unless they would be crossed.
func (w *work) makeBound(i int, term api.Term) {
	row, v := w.problem.Rows[i], &w.problem.Vars[term.Var]
	rowLo, rowHi := given(row, term.Coef)
	lo, gaveLo := tighter(v.Lo, rowLo, 1)
	hi, gaveHi := tighter(v.Hi, rowHi, -1)
	if areCrossed(lo, hi) {
		return
	}
	v.Lo, v.Hi = lo, hi
	rest := leftOf(v.Obj, w.columns[term.Var])
	w.letRowGo(i, bearRest(i, term.Coef, w.problem.Max, rest, gaveLo, gaveHi))
}

func (w *work) letRowGo(i int, back func(c *api.Cert)) {
	w.rowGone[i] = true
	w.steps = append(w.steps, step{back: back})
}

// lookAtVar does what can be done with a variable: P15.2.
func (w *work) lookAtVar(j int) {
	if at := w.goesAt(j); at.Has {
		w.letVarGo(j, at.At)
	}
}

// goesAt tells at which number a variable goes, if it does.
func (w *work) goesAt(j int) api.Bound {
	v := w.problem.Vars[j]
	isThere := func(e entry) bool { return !w.rowGone[e.row] }
	switch {
	case areAlike(v.Lo, v.Hi):
		return v.Lo
	case areCrossed(v.Lo, v.Hi) || slices.ContainsFunc(w.columns[j], isThere):
		return api.Bound{}
	}
	return best(v, w.problem.Max)
}

func (w *work) letVarGo(j int, at api.Rat) {
	p := &w.problem
	p.Const = rat.Add(p.Const, rat.Mul(p.Vars[j].Obj, at))
	for _, e := range w.columns[j] {
		if w.rowGone[e.row] {
			continue
		}
		row, amount := &p.Rows[e.row], rat.Mul(e.coef, at)
		row.Lo, row.Hi = less(row.Lo, amount), less(row.Hi, amount)
		w.terms[e.row]--
	}
	w.varGone[j] = true
	w.steps = append(w.steps, step{back: stand(j, at)})
}

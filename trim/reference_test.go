package trim_test

import (
	"math/big"
	"slices"

	"vertex/api"
)

// ends are bounds as they are at a time; nil is one that is absent.
type ends struct{ lo, hi *big.Rat }

func endsOf(lo, hi api.Bound) (e ends) {
	if lo.Has {
		e.lo = toBig(lo.At)
	}
	if hi.Has {
		e.hi = toBig(hi.At)
	}
	return e
}

func (e ends) areCrossed() bool { return e.lo != nil && e.hi != nil && e.lo.Cmp(e.hi) > 0 }

func (e ends) areAlike() bool { return e.lo != nil && e.hi != nil && e.lo.Cmp(e.hi) == 0 }

// each gives the ends with something done to those that are there.
func (e ends) each(do func(*big.Rat) *big.Rat) (other ends) {
	if e.lo != nil {
		other.lo = do(e.lo)
	}
	if e.hi != nil {
		other.hi = do(e.hi)
	}
	return other
}

func (e ends) bounds() (lo, hi api.Bound) {
	if e.lo != nil {
		lo = api.Bound{Has: true, At: fromBig(e.lo)}
	}
	if e.hi != nil {
		hi = api.Bound{Has: true, At: fromBig(e.hi)}
	}
	return lo, hi
}

// event is a step, with all that is asked of it on the way back.
type event struct {
	kind           string
	isRow          bool
	place          int
	at             *big.Rat // at what a variable went
	variable       int      // of a row with one term
	gaveLo, gaveHi bool     // whether that row's were the tighter ones
	behind         []bool   // which rows were there right behind it
}

// second trims a problem by the chapter's words: all coefficients are written out, and what is asked of them is asked afresh each time.
type second struct {
	p                  api.Problem
	coefs              [][]*big.Rat // by row and variable
	constant           *big.Rat
	vars, rows         []ends
	varThere, rowThere []bool
	log                []event
	passes             int
	stuck              map[string]int // what was looked at in vain at the end
}

// secondOf trims a problem to the end.
func secondOf(p api.Problem) *second {
	s := &second{p: p, constant: toBig(p.Const)}
	for _, v := range p.Vars {
		s.vars, s.varThere = append(s.vars, endsOf(v.Lo, v.Hi)), append(s.varThere, true)
	}
	for _, row := range p.Rows {
		s.rows, s.rowThere = append(s.rows, endsOf(row.Lo, row.Hi)), append(s.rowThere, true)
		s.coefs = append(s.coefs, coefsOf(p, row))
	}
	for changed := true; changed; {
		s.passes, s.stuck = s.passes+1, map[string]int{}
		before := len(s.log)
		for i := range p.Rows {
			if s.rowThere[i] {
				s.row(i)
			}
		}
		for j := range p.Vars {
			if s.varThere[j] {
				s.variable(j)
			}
		}
		changed = len(s.log) > before
	}
	return s
}

// coefsOf are a row's coefficients of all variables, each that of all its terms together.
func coefsOf(p api.Problem, row api.Row) (l []*big.Rat) {
	for j := range p.Vars {
		sum := new(big.Rat)
		for _, term := range row.Terms {
			if term.Var == j {
				sum = plus(sum, toBig(term.Coef))
			}
		}
		l = append(l, sum)
	}
	return l
}

// termsOf are the variables of which a row has a term.
func (s *second) termsOf(i int) (l []int) {
	for j, coef := range s.coefs[i] {
		if s.varThere[j] && coef.Sign() != 0 {
			l = append(l, j)
		}
	}
	return l
}

func (s *second) row(i int) {
	terms, e := s.termsOf(i), s.rows[i]
	switch {
	case len(terms) == 1:
		s.bound(i, terms[0])
	case len(terms) > 1:
	case e.lo != nil && e.lo.Sign() > 0 || e.hi != nil && e.hi.Sign() < 0:
		s.stuck["a row without terms"]++
	default:
		s.rowThere[i] = false
		s.log = append(s.log, event{kind: "a row without terms", isRow: true, place: i, variable: -1, behind: slices.Clone(s.rowThere)})
	}
}

// bound makes bounds of a row with one term.
func (s *second) bound(i, j int) {
	a, own := s.coefs[i][j], s.vars[j]
	row := s.rows[i].each(func(n *big.Rat) *big.Rat { return by(n, a) })
	if a.Sign() < 0 {
		row.lo, row.hi = row.hi, row.lo
	}
	e := event{kind: "a row with one term", isRow: true, place: i, variable: j}
	e.gaveLo = row.lo != nil && (own.lo == nil || row.lo.Cmp(own.lo) > 0)
	e.gaveHi = row.hi != nil && (own.hi == nil || row.hi.Cmp(own.hi) < 0)
	if e.gaveLo {
		own.lo = row.lo
	}
	if e.gaveHi {
		own.hi = row.hi
	}
	if own.areCrossed() {
		s.stuck["a row with one term"]++
		return
	}
	s.vars[j], s.rowThere[i] = own, false
	e.behind = slices.Clone(s.rowThere)
	s.log = append(s.log, e)
}

func (s *second) variable(j int) {
	inRow := false
	for i := range s.rows {
		inRow = inRow || s.rowThere[i] && slices.Contains(s.termsOf(i), j)
	}
	e := s.vars[j]
	switch {
	case e.areAlike() && inRow:
		s.letGo(j, e.lo, "a fixed variable in a row")
	case e.areAlike():
		s.letGo(j, e.lo, "a fixed variable in no row")
	case inRow:
	case e.areCrossed():
		s.stuck["a crossed variable"]++
	default:
		s.atBest(j)
	}
}

// atBest lets a variable in no row go at its best bound.
func (s *second) atBest(j int) {
	e, sign := s.vars[j], toBig(s.p.Vars[j].Obj).Sign()
	if s.p.Max {
		sign = -sign
	}
	at, kind := e.lo, "a variable at its Lo"
	switch {
	case sign < 0 || sign == 0 && at == nil && e.hi != nil:
		at, kind = e.hi, "a variable at its Hi"
	case sign == 0 && at == nil:
		at, kind = new(big.Rat), "a variable at 0"
	}
	if at == nil {
		s.stuck["a variable without its best bound"]++
		return
	}
	s.letGo(j, at, kind)
}

func (s *second) letGo(j int, at *big.Rat, kind string) {
	s.constant = plus(s.constant, times(toBig(s.p.Vars[j].Obj), at))
	for i := range s.rows {
		less := times(s.coefs[i][j], at)
		s.rows[i] = s.rows[i].each(func(n *big.Rat) *big.Rat { return minus(n, less) })
	}
	s.varThere[j] = false
	s.log = append(s.log, event{kind: kind, place: j, at: at})
}

// problem is what is left.
func (s *second) problem() api.Problem {
	q := api.Problem{Max: s.p.Max, Name: s.p.Name, Const: fromBig(s.constant)}
	place := map[int]int{}
	for j, v := range s.p.Vars {
		if s.varThere[j] {
			place[j] = len(q.Vars)
			lo, hi := s.vars[j].bounds()
			q.Vars = append(q.Vars, api.Var{Name: v.Name, Obj: fromBig(toBig(v.Obj)), Lo: lo, Hi: hi, Whole: v.Whole})
		}
	}
	for i, row := range s.p.Rows {
		if !s.rowThere[i] {
			continue
		}
		lo, hi := s.rows[i].bounds()
		left := api.Row{Name: row.Name, Lo: lo, Hi: hi}
		for _, j := range s.termsOf(i) {
			left.Terms = append(left.Terms, api.Term{Var: place[j], Coef: fromBig(s.coefs[i][j])})
		}
		q.Rows = append(q.Rows, left)
	}
	return q
}

// laid lays numbers out among all places, at those that are there.
func laid(l []api.Rat, there []bool) (all []*big.Rat) {
	for _, is := range there {
		n := new(big.Rat)
		if is && len(l) > 0 {
			n, l = toBig(l[0]), l[1:]
		}
		all = append(all, n)
	}
	return all
}

func fromBigs(l []*big.Rat) (all []api.Rat) {
	for _, n := range l {
		all = append(all, fromBig(n))
	}
	return all
}

// cert is what a certificate of what is left is to be brought back to.
func (s *second) cert(c api.Cert) api.Cert {
	x, y, ray := laid(c.X, s.varThere), laid(c.Y, s.rowThere), laid(c.Ray, s.varThere)
	for _, e := range slices.Backward(s.log) {
		if e.isRow {
			y[e.place] = s.multiplier(e, y, c.Verdict == api.Infeasible)
		} else {
			x[e.place], ray[e.place] = e.at, new(big.Rat)
		}
	}
	switch c.Verdict {
	case api.Optimal:
		return api.Cert{Verdict: c.Verdict, Value: fromBig(toBig(c.Value)), X: fromBigs(x), Y: fromBigs(y)}
	case api.Infeasible:
		return api.Cert{Verdict: c.Verdict, Y: fromBigs(y)}
	case api.Unbounded:
		return api.Cert{Verdict: c.Verdict, X: fromBigs(x), Ray: fromBigs(ray)}
	}
	return api.Cert{}
}

// multiplier is that of a row that went.
func (s *second) multiplier(e event, y []*big.Rat, infeasible bool) *big.Rat {
	if e.variable < 0 {
		return new(big.Rat)
	}
	d := new(big.Rat)
	if !infeasible {
		d = toBig(s.p.Vars[e.variable].Obj)
	}
	for k, there := range e.behind {
		if there {
			d = minus(d, times(y[k], s.coefs[k][e.variable]))
		}
	}
	asksLo, asksHi := d.Sign() > 0, d.Sign() < 0
	if s.p.Max && !infeasible {
		asksLo, asksHi = asksHi, asksLo
	}
	if asksLo && e.gaveLo || asksHi && e.gaveHi {
		return by(d, s.coefs[e.place][e.variable])
	}
	return new(big.Rat)
}

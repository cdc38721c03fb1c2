package check_test

import (
	"math/big"
	"math/rand"
	"slices"

	"vertex/api"
	"vertex/back"
)

// chance makes problems and certificates, the same ones at each run.
type chance struct{ *rand.Rand }

func chances(seed int64) chance { return chance{rand.New(rand.NewSource(seed))} }

// often tells true once in so many times.
func (r chance) often(n int) bool { return r.Intn(n) == 0 }

// small makes a number, most of them small.
func (r chance) small() *big.Rat {
	n := big.NewRat(int64(r.Intn(9)-4), int64(1+r.Intn(3)))
	if r.often(40) {
		n.Mul(n, new(big.Rat).SetFrac(new(big.Int).Lsh(big.NewInt(5), uint(r.Intn(150))), big.NewInt(1+r.Int63())))
	}
	return n
}

// number makes a number in any form.
func (r chance) number() api.Rat { return r.anyForm(r.small()) }

func (r chance) numbers(n int) (l []api.Rat) {
	for range n {
		l = append(l, r.number())
	}
	return l
}

// tiny makes numbers among which there are but few different ones, so that they meet by chance.
func (r chance) tiny(n int) (l []api.Rat) {
	for range n {
		l = append(l, r.anyForm(big.NewRat(int64(r.Intn(3)-1), 1)))
	}
	return l
}

// anyForm tells a number in one of its forms.
func (r chance) anyForm(n *big.Rat) api.Rat {
	a := fromBig(n)
	switch r.Intn(6) {
	case 0:
		return odd(n.RatString())
	case 1:
		a.Num.Mag, a.Den = append(a.Num.Mag, 0), append(a.Den, 0, 0)
	case 2:
		if n.Sign() == 0 {
			return noughts()[r.Intn(len(noughts()))]
		}
	}
	return a
}

func (r chance) anyForms(l []api.Rat) (again []api.Rat) {
	for _, a := range l {
		again = append(again, r.anyForm(toBig(a)))
	}
	return again
}

// bounds makes bounds of all kinds, between which a number lies: none, one, alike, unlike; numbers stand in absent ones too.
func (r chance) bounds(at *big.Rat) both {
	off := func(sign int64) api.Rat {
		return r.anyForm(plus(at, big.NewRat(sign*int64(r.Intn(9)), int64(1+r.Intn(2)))))
	}
	b := both{api.Bound{Has: r.Intn(2) == 0, At: off(-1)}, api.Bound{Has: r.Intn(2) == 0, At: off(1)}}
	for _, bound := range []*api.Bound{&b.lo, &b.hi} {
		if !bound.Has {
			bound.At = r.number()
		}
	}
	return b
}

// frame makes a problem with neither Objs nor bounds: several terms of one variable in a row, and terms of variables that aren't there.
func (r chance) frame(variables, rows int) api.Problem {
	p := api.Problem{Max: r.Intn(2) == 0, Const: r.number(), Vars: make([]api.Var, variables), Rows: make([]api.Row, rows)}
	for j := range p.Vars {
		p.Vars[j].Whole = r.often(4)
	}
	for i := range p.Rows {
		for range r.Intn(variables + 3) {
			p.Rows[i].Terms = append(p.Rows[i].Terms, api.Term{Var: r.Intn(variables+4) - 2, Coef: r.number()})
		}
	}
	return p
}

// setObjs sets Objs by what is to be left of each variable.
func (r chance) setObjs(p api.Problem, rest, y []api.Rat) {
	less := multipliersOf(noObjective(p), y)
	for j := range p.Vars {
		p.Vars[j].Obj = r.anyForm(minus(toBig(rest[j]), less[j]))
	}
}

// madeOptimal makes a point and multipliers first, and then a problem of which they are best: the bound that a multiplier asks for is where the point lies.
func (r chance) madeOptimal(variables, rows int) (api.Problem, api.Cert) {
	p := r.frame(variables, rows)
	c := api.Cert{Verdict: api.Optimal, X: r.numbers(variables), Y: r.numbers(rows)}
	r.setObjs(p, r.numbers(variables), c.Y)
	values, multipliers := valuesOf(p, c.X), multipliersOf(p, c.Y)
	for k := range boundsOf(p) {
		b, here := r.bounds(values[k]), api.Bound{Has: true, At: r.anyForm(values[k])}
		if sign := multipliers[k].Sign(); sign != 0 && sign > 0 != p.Max {
			b.lo = here
		} else if sign != 0 {
			b.hi = here
		}
		setBounds(p, k, b)
	}
	c.Value = r.anyForm(valueAt(p, c.X))
	return p, c
}

// madeInfeasible makes multipliers first, and then bounds by which they prove what is above nought, if only by a hair, or, now and then, nought itself, or what is below.
func (r chance) madeInfeasible(variables, rows int) (api.Problem, api.Cert) {
	p := r.frame(variables, rows)
	c := api.Cert{Verdict: api.Infeasible, Y: r.numbers(rows)}
	r.setObjs(p, r.numbers(variables), r.numbers(rows))
	multipliers := multipliersOf(noObjective(p), c.Y)
	bearing := -1
	for k := range boundsOf(p) {
		b := r.bounds(r.small())
		switch multipliers[k].Sign() {
		case 1:
			b.lo, b.hi, bearing = api.Bound{Has: true, At: r.number()}, api.Bound{At: r.number()}, k
		case -1:
			b.lo, b.hi, bearing = api.Bound{At: r.number()}, api.Bound{Has: true, At: r.number()}, k
		}
		setBounds(p, k, b)
	}
	if bearing < 0 {
		return p, c
	}
	proven, _ := secondProve(noObjective(p), c.Y)
	want := big.NewRat(int64(r.Intn(8)-1), 1+r.Int63n(1<<uint(r.Intn(60))))
	move := func(a api.Rat) api.Rat {
		return r.anyForm(plus(toBig(a), by(minus(want, proven), multipliers[bearing])))
	}
	b := boundsOf(p)[bearing]
	b.lo.At, b.hi.At = move(b.lo.At), move(b.hi.At)
	setBounds(p, bearing, b)
	return p, c
}

// madeUnbounded makes a point and a ray first, and then bounds that let the ray pass; mostly the sense is that in which the objective becomes better.
func (r chance) madeUnbounded(variables, rows int) (api.Problem, api.Cert) {
	p := r.frame(variables, rows)
	c := api.Cert{Verdict: api.Unbounded, X: r.numbers(variables), Ray: r.numbers(variables)}
	r.setObjs(p, r.numbers(variables), make([]api.Rat, rows))
	values, along := valuesOf(p, c.X), valuesOf(p, c.Ray)
	for k := range boundsOf(p) {
		b := r.bounds(values[k])
		b.lo.Has = b.lo.Has && along[k].Sign() >= 0
		b.hi.Has = b.hi.Has && along[k].Sign() <= 0
		setBounds(p, k, b)
	}
	if !r.often(8) {
		p.Max = objectiveAt(p, c.Ray).Sign() > 0
	}
	return p, c
}

// problem makes a problem, of which nobody knows the verdict; now and then it is crossed.
func (r chance) problem(variables, rows int) api.Problem {
	p := r.frame(variables, rows)
	x := r.numbers(variables)
	r.setObjs(p, r.numbers(variables), make([]api.Rat, rows))
	for k, value := range valuesOf(p, x) {
		if r.often(8) {
			value = r.small()
		}
		b := r.bounds(value)
		if r.often(25) {
			b.lo, b.hi = b.hi, b.lo
		}
		setBounds(p, k, b)
	}
	return p
}

// anything makes a problem and a certificate that have nothing to do with one another, of few different numbers.
func (r chance) anything(variables, rows int) (api.Problem, api.Cert) {
	p := r.problem(variables, rows)
	if r.Intn(2) == 0 {
		l := r.tiny(variables)
		for j := range p.Vars {
			p.Vars[j].Obj = l[j]
		}
	}
	c := api.Cert{Verdict: r.Intn(5), X: r.tiny(variables), Y: r.tiny(rows), Ray: r.tiny(variables)}
	c.Value = r.anyForm(valueAt(p, c.X))
	return p, c
}

// nudge changes one thing of a certificate.
func (r chance) nudge(c api.Cert) api.Cert {
	lists := []*[]api.Rat{&c.X, &c.Y, &c.Ray}
	l := lists[r.Intn(len(lists))]
	switch k := r.Intn(8); {
	case k == 0:
		c.Verdict = r.Intn(6) - 1
	case k == 1:
		c.Value = r.number()
	case k == 2:
		*l = append(slices.Clone(*l), r.tiny(1)...)
	case len(*l) == 0:
	case k == 3:
		*l = (*l)[1:]
	default:
		*l = slices.Clone(*l)
		(*l)[r.Intn(len(*l))] = r.number()
	}
	return c
}

// pair makes a problem with a certificate: of the simplex method, or made by hand ahead of the problem, or of nobody; many are right, many are wrong in one thing. Fields that the verdict doesn't name may be filled.
func (r chance) pair(variables, rows int) (p api.Problem, c api.Cert) {
	switch r.Intn(6) {
	case 0:
		p, c = r.madeOptimal(variables, rows)
	case 1:
		p, c = r.madeInfeasible(variables, rows)
	case 2:
		p, c = r.madeUnbounded(variables, rows)
	case 3:
		p, c = r.anything(variables, rows)
	default:
		p = r.problem(variables, rows)
		c = back.Solve(p)
	}
	if r.Intn(2) == 0 {
		c = r.filled(c)
	}
	if r.Intn(2) == 0 {
		c = r.nudge(c)
	}
	return p, c
}

// filled gives a certificate with whatever in the fields that its verdict doesn't name.
func (r chance) filled(c api.Cert) api.Cert {
	if c.Verdict != api.Optimal {
		c.Value = r.number()
	}
	if c.Verdict == api.Infeasible {
		c.X = r.numbers(r.Intn(5))
	}
	if c.Verdict != api.Unbounded {
		c.Ray = r.numbers(r.Intn(5))
	} else {
		c.Y = r.numbers(r.Intn(5))
	}
	return c
}

// otherForm gives the same problem, its numbers told otherwise, terms split in two, with terms of no variable between them, other names, and other variables whole.
func (r chance) otherForm(p api.Problem) api.Problem {
	again := func(a api.Rat) api.Rat { return r.anyForm(toBig(a)) }
	bound := func(b api.Bound) api.Bound {
		if !b.Has {
			return api.Bound{At: r.number()}
		}
		return api.Bound{Has: true, At: again(b.At)}
	}
	c := api.Problem{Max: p.Max, Name: "other", Const: again(p.Const)}
	for _, v := range p.Vars {
		c.Vars = append(c.Vars, api.Var{Name: "x", Obj: again(v.Obj), Lo: bound(v.Lo), Hi: bound(v.Hi), Whole: r.Intn(2) == 0})
	}
	for _, row := range p.Rows {
		other := api.Row{Name: "x", Lo: bound(row.Lo), Hi: bound(row.Hi)}
		for _, term := range row.Terms {
			part := r.number()
			other.Terms = append(other.Terms, api.Term{Var: term.Var, Coef: part}, api.Term{Var: -1 - r.Intn(3), Coef: r.number()}, api.Term{Var: term.Var, Coef: r.anyForm(minus(toBig(term.Coef), toBig(part)))}, api.Term{Var: len(p.Vars) + r.Intn(3), Coef: r.number()})
		}
		c.Rows = append(c.Rows, other)
	}
	return c
}

// multiplied gives a problem with each row multiplied by a number that isn't nought, and the certificate with its multipliers divided by it.
func (r chance) multiplied(p api.Problem, c api.Cert) (api.Problem, api.Cert) {
	p.Rows, c.Y = slices.Clone(p.Rows), slices.Clone(c.Y)
	for i, row := range p.Rows {
		factor := r.small()
		if factor.Sign() == 0 {
			factor = big.NewRat(-1, 1)
		}
		scaled := func(b api.Bound) api.Bound {
			return api.Bound{Has: b.Has, At: r.anyForm(times(factor, toBig(b.At)))}
		}
		row.Lo, row.Hi = scaled(row.Lo), scaled(row.Hi)
		if factor.Sign() < 0 {
			row.Lo, row.Hi = row.Hi, row.Lo
		}
		row.Terms = slices.Clone(row.Terms)
		for k := range row.Terms {
			row.Terms[k].Coef = r.anyForm(times(factor, toBig(row.Terms[k].Coef)))
		}
		p.Rows[i] = row
		if i < len(c.Y) {
			c.Y[i] = r.anyForm(by(toBig(c.Y[i]), factor))
		}
	}
	return p, c
}

package span_test

import (
	"math"
	"math/big"
	"math/rand"
	"slices"
	"strconv"

	"vertex/api"
	"vertex/back"
	"vertex/climb"
)

// chance makes standards, lists of columns and problems, the same ones at each run.
type chance struct{ *rand.Rand }

func chances(seed int64) chance { return chance{rand.New(rand.NewSource(seed))} }

// often tells true once in so many times.
func (r chance) often(n int) bool { return r.Intn(n) == 0 }

// small makes a number, most of them small.
func (r chance) small() *big.Rat {
	n := big.NewRat(int64(r.Intn(7)-3), int64(1+r.Intn(2)))
	if r.often(40) {
		n.Mul(n, new(big.Rat).SetFrac(new(big.Int).Lsh(big.NewInt(5), uint(r.Intn(150))), big.NewInt(1+r.Int63())))
	}
	return n
}

// number makes a number in any form.
func (r chance) number() api.Rat { return r.anyForm(r.small()) }

func (r chance) numbers(n int) (l []api.Rat) {
	for range n {
		l = append(l, r.number())
	}
	return l
}

// anyForm tells a number in one of its forms.
func (r chance) anyForm(n *big.Rat) api.Rat {
	a := fromBig(n)
	switch r.Intn(6) {
	case 0:
		return odd(n.RatString())
	case 1:
		a.Num.Mag, a.Den = append(a.Num.Mag, 0), append(a.Den, 0, 0)
	case 2:
		if n.Sign() == 0 {
			return noughts()[r.Intn(len(noughts()))]
		}
	}
	return a
}

func (r chance) anyForms(l []api.Rat) (again []api.Rat) {
	for _, a := range l {
		again = append(again, r.anyForm(toBig(a)))
	}
	return again
}

// notBelow makes numbers that aren't below nought, about half of them 0.
func (r chance) notBelow(n int) (l []api.Rat) {
	for range n {
		l = append(l, r.anyForm(whole(int64(r.Intn(2)*r.Intn(4)))))
	}
	return l
}

// rowOf makes a row: some too short, some too long, some that say what another one does, or nothing.
func (r chance) rowOf(others [][]api.Rat, n int) []api.Rat {
	switch r.Intn(10) {
	case 0:
		return r.numbers(r.Intn(n + 1))
	case 1:
		return r.numbers(n + 1 + r.Intn(3))
	case 2, 3:
		if len(others) > 0 {
			return r.multiple(others[r.Intn(len(others))])
		}
	case 4:
		return r.anyForms(make([]api.Rat, n))
	}
	return r.numbers(n)
}

// multiple gives a row some times, turned now and then.
func (r chance) multiple(l []api.Rat) (c []api.Rat) {
	often := whole(int64([]int{1, 1, 2, -1, -3}[r.Intn(5)]))
	for _, a := range l {
		c = append(c, r.anyForm(times(often, toBig(a))))
	}
	return c
}

// standard makes a standard by hand, of at most so many rows and columns. Most have a point, and most of these a least value; rows may be missing or too many.
func (r chance) standard(rows, columns int) (s api.Standard) {
	m, n := r.Intn(rows+1), r.Intn(columns+1)
	s.B, s.C, s.K = r.numbers(m), r.numbers(n), r.number()
	for range m {
		s.A = append(s.A, r.rowOf(s.A, n))
	}
	switch r.Intn(8) {
	case 0:
		s.A = s.A[:r.Intn(m+1)]
	case 1:
		s.A = append(s.A, r.numbers(n), nil)
	}
	if r.Intn(6) > 0 {
		s.B = r.meeting(s, r.notBelow(n))
	}
	if r.Intn(4) > 0 {
		s.C = r.above(s)
	}
	return s
}

// meeting gives right sides such that y meets a standard's rows.
func (r chance) meeting(s api.Standard, y []api.Rat) (l []api.Rat) {
	for i := range s.B {
		sum := whole(0)
		for j := range s.C {
			sum = plus(sum, times(entryOf(s, i, j), toBig(y[j])))
		}
		l = append(l, r.anyForm(sum))
	}
	return l
}

// above gives costs of which it is sure that they can't fall for ever: a sum of the rows, and something not below nought.
func (r chance) above(s api.Standard) (l []api.Rat) {
	mult, more := r.numbers(len(s.B)), r.notBelow(len(s.C))
	for j := range s.C {
		sum := toBig(more[j])
		for i := range s.B {
			sum = plus(sum, times(toBig(mult[i]), entryOf(s, i, j)))
		}
		l = append(l, r.anyForm(sum))
	}
	return l
}

// otherForm gives the same standard, its numbers told otherwise: with lists that are longer, or shorter by noughts at the end.
func (r chance) otherForm(s api.Standard) (c api.Standard) {
	c.B, c.C, c.K = r.anyForms(s.B), r.anyForms(s.C), r.anyForm(toBig(s.K))
	for i := range s.B {
		var numbers []api.Rat
		for j := range s.C {
			numbers = append(numbers, r.anyForm(entryOf(s, i, j)))
		}
		switch r.Intn(3) {
		case 0:
			numbers = append(numbers, r.numbers(r.Intn(3))...)
		case 1:
			for len(numbers) > 0 && toBig(numbers[len(numbers)-1]).Sign() == 0 {
				numbers = numbers[:len(numbers)-1]
			}
		}
		c.A = append(c.A, numbers)
	}
	switch r.Intn(3) {
	case 0:
		c.A = append(c.A, r.numbers(len(s.C)), r.numbers(3))
	case 1:
		for len(c.A) > 0 && len(c.A[len(c.A)-1]) == 0 {
			c.A = c.A[:len(c.A)-1]
		}
	}
	return c
}

// dressed gives a list in another order, some of its columns several times, with numbers between them that are no columns of n.
func (r chance) dressed(l []int, n int) []int {
	l = slices.Clone(l)
	for range r.Intn(3) {
		if len(l) > 0 {
			l = append(l, l[r.Intn(len(l))])
		}
	}
	for range r.Intn(3) {
		l = append(l, []int{-1, n, n + 1 + r.Intn(5), -2 - r.Intn(5), math.MaxInt, math.MinInt}[r.Intn(6)])
	}
	r.Shuffle(len(l), func(a, b int) { l[a], l[b] = l[b], l[a] })
	return l
}

// columns makes a list of columns of a standard, and of other numbers; many are states.
func (r chance) columns(s api.Standard) []int {
	n := len(s.C)
	switch r.Intn(8) {
	case 0:
		return nil
	case 1:
		return r.dressed(r.Perm(n)[:r.Intn(n+1)], n)
	case 2:
		return r.dressed(r.Perm(n)[:min(n, len(s.B))], n)
	}
	l := climb.Run(s).Basis
	if len(l) > 0 && r.often(4) {
		l[r.Intn(len(l))] = r.Intn(n)
	}
	return r.dressed(l, n)
}

// state makes a standard that has a least value, and a state of it.
func (r chance) state(rows, columns int) (api.Standard, []int) {
	for {
		s := r.standard(rows, columns)
		if o := climb.Run(s); o.Verdict == api.Optimal {
			return s, r.dressed(o.Basis, len(s.C))
		}
	}
}

// within makes numbers of a reach: its ends, and some between them, or as far as chance goes.
func (r chance) within(x reach) (l []*big.Rat) {
	for _, end := range []*big.Rat{x.lo, x.hi} {
		if end != nil {
			l = append(l, end)
		}
	}
	for range 3 {
		share, far := big.NewRat(int64(1+r.Intn(99)), 100), whole(int64(r.Intn(1<<r.Intn(40))))
		switch {
		case x.lo != nil && x.hi != nil:
			l = append(l, plus(x.lo, times(share, minus(x.hi, x.lo))))
		case x.lo != nil:
			l = append(l, plus(x.lo, plus(share, far)))
		case x.hi != nil:
			l = append(l, minus(x.hi, plus(share, far)))
		default:
			l = append(l, plus(share, far), turn(far))
		}
	}
	return l
}

// beyond makes numbers outside a reach, by a hair and by more.
func (r chance) beyond(x reach) (l []*big.Rat) {
	hair := new(big.Rat).SetFrac(big.NewInt(1), new(big.Int).Lsh(big.NewInt(1), uint(60+r.Intn(100))))
	for _, off := range []*big.Rat{hair, big.NewRat(int64(1+r.Intn(9)), 7)} {
		if x.lo != nil {
			l = append(l, minus(x.lo, off))
		}
		if x.hi != nil {
			l = append(l, plus(x.hi, off))
		}
	}
	return l
}

// bounds makes bounds between which a number lies, often at the number itself: none, one, both, alike; numbers stand in absent ones too.
func (r chance) bounds(at *big.Rat) (lo, hi api.Bound) {
	off := func(sign int64) api.Rat {
		return r.anyForm(plus(at, big.NewRat(sign*int64(r.Intn(4)), int64(1+r.Intn(2)))))
	}
	lo, hi = api.Bound{At: r.number()}, api.Bound{At: r.number()}
	kind := r.Intn(8)
	if kind&1 != 0 {
		lo = api.Bound{Has: true, At: off(-1)}
	}
	if kind&2 != 0 {
		hi = api.Bound{Has: true, At: off(1)}
	}
	if kind == 4 {
		lo, hi = api.Bound{Has: true, At: r.anyForm(at)}, api.Bound{Has: true, At: r.anyForm(at)}
	}
	return lo, hi
}

// terms makes a row's: some told in two parts, some that make 0 together, some of variables that aren't there.
func (r chance) terms(variables int) (l []api.Term) {
	add := func(variable int, coef *big.Rat) {
		l = append(l, api.Term{Var: variable, Coef: r.anyForm(coef)})
	}
	for range []int{0, 1, 1, 2, 2, 2, 3, 4}[r.Intn(8)] {
		if variables == 0 {
			break
		}
		variable, coef := r.Intn(variables), r.small()
		if r.often(4) {
			part := r.small()
			add(variable, part)
			coef = minus(coef, part)
		}
		add(variable, coef)
		if r.often(8) {
			variable = r.Intn(variables)
			add(variable, coef)
			add(variable, turn(coef))
		}
	}
	if r.often(6) {
		add([]int{-1, variables, variables + 3, math.MaxInt, math.MinInt}[r.Intn(5)], r.small())
	}
	r.Shuffle(len(l), func(a, b int) { l[a], l[b] = l[b], l[a] })
	return l
}

// problem makes a problem of at most so many variables and rows. Of many a point holds; of others bounds were made elsewhere by chance, or are crossed.
func (r chance) problem(variables, rows int) api.Problem {
	p := api.Problem{Max: r.often(2), Name: "cost", Const: r.number()}
	for j := range r.Intn(variables + 1) {
		obj := r.number()
		if r.often(4) {
			obj = noughts()[r.Intn(len(noughts()))]
		}
		p.Vars = append(p.Vars, api.Var{Name: "y" + strconv.Itoa(j), Obj: obj, Whole: r.often(4)})
	}
	for i := range r.Intn(rows + 1) {
		p.Rows = append(p.Rows, api.Row{Name: "row" + strconv.Itoa(i), Terms: r.terms(len(p.Vars))})
	}
	x := r.numbers(len(p.Vars))
	astray := r.often(2)
	for k, value := range valuesOf(p, x) {
		if astray && r.often(6) {
			value = r.small()
		}
		lo, hi := r.bounds(value)
		if astray && r.often(10) {
			lo, hi = hi, lo
		}
		if k < len(p.Vars) {
			p.Vars[k].Lo, p.Vars[k].Hi = lo, hi
		} else {
			p.Rows[k-len(p.Vars)].Lo, p.Rows[k-len(p.Vars)].Hi = lo, hi
		}
	}
	return p
}

// otherTelling gives the same problem, its numbers told otherwise, terms split in two, with terms of no variable between them, other names, and other variables whole.
func (r chance) otherTelling(p api.Problem) api.Problem {
	again := func(a api.Rat) api.Rat { return r.anyForm(toBig(a)) }
	bound := func(b api.Bound) api.Bound {
		if !b.Has {
			return api.Bound{At: r.number()}
		}
		return api.Bound{Has: true, At: again(b.At)}
	}
	c := api.Problem{Max: p.Max, Name: "other", Const: again(p.Const)}
	for _, v := range p.Vars {
		c.Vars = append(c.Vars, api.Var{Name: "x0", Obj: again(v.Obj), Lo: bound(v.Lo), Hi: bound(v.Hi), Whole: r.often(2)})
	}
	for _, row := range p.Rows {
		other := api.Row{Name: "rp0", Lo: bound(row.Lo), Hi: bound(row.Hi)}
		for _, term := range row.Terms {
			part := r.number()
			other.Terms = append(other.Terms, api.Term{Var: term.Var, Coef: part}, api.Term{Var: -1 - r.Intn(3), Coef: r.number()}, api.Term{Var: term.Var, Coef: r.anyForm(minus(toBig(term.Coef), toBig(part)))}, api.Term{Var: len(p.Vars) + r.Intn(3), Coef: r.number()})
		}
		c.Rows = append(c.Rows, other)
	}
	return c
}

// points makes points that hold, of a problem that has some: where other objectives are best, or some way along a ray.
func (r chance) points(p api.Problem) (l [][]api.Rat) {
	p.Vars = slices.Clone(p.Vars)
	for range 3 {
		for j := range p.Vars {
			p.Vars[j].Obj = r.number()
		}
		c := back.Solve(p)
		if c.Verdict == api.Infeasible {
			return nil
		}
		far := whole(int64(r.Intn(4)))
		for j := range c.Ray {
			c.X[j] = fromBig(plus(toBig(c.X[j]), times(far, toBig(c.Ray[j]))))
		}
		l = append(l, c.X)
	}
	return l
}

package trim_test

import (
	"math/big"
	"math/rand"
	"slices"
	"strconv"

	"vertex/api"
	"vertex/back"
)

// chance makes problems and certificates, the same ones at each run.
type chance struct{ *rand.Rand }

func chances(seed int64) chance { return chance{rand.New(rand.NewSource(seed))} }

// often tells true once in so many times.
func (r chance) often(n int) bool { return r.Intn(n) == 0 }

// small makes a number, most of them small.
func (r chance) small() *big.Rat {
	n := big.NewRat(int64(r.Intn(7)-3), int64(1+r.Intn(2)))
	if r.often(40) {
		n.Mul(n, new(big.Rat).SetFrac(new(big.Int).Lsh(big.NewInt(5), uint(r.Intn(150))), big.NewInt(1+r.Int63())))
	}
	return n
}

// number makes a number in any form.
func (r chance) number() api.Rat { return r.anyForm(r.small()) }

func (r chance) numbers(n int) (l []api.Rat) {
	for range n {
		l = append(l, r.number())
	}
	return l
}

// anyForm tells a number in one of its forms.
func (r chance) anyForm(n *big.Rat) api.Rat {
	a := fromBig(n)
	switch r.Intn(6) {
	case 0:
		return odd(n.RatString())
	case 1:
		a.Num.Mag, a.Den = append(a.Num.Mag, 0), append(a.Den, 0, 0)
	case 2:
		if n.Sign() == 0 {
			return noughts()[r.Intn(len(noughts()))]
		}
	}
	return a
}

// bounds makes bounds between which a number lies, often at the number itself: none, one, both, alike; numbers stand in absent ones too.
func (r chance) bounds(at *big.Rat) (lo, hi api.Bound) {
	off := func(sign int64) api.Rat {
		return r.anyForm(plus(at, big.NewRat(sign*int64(r.Intn(4)), int64(1+r.Intn(2)))))
	}
	lo, hi = api.Bound{At: r.number()}, api.Bound{At: r.number()}
	kind := r.Intn(8)
	if kind&1 != 0 {
		lo = api.Bound{Has: true, At: off(-1)}
	}
	if kind&2 != 0 {
		hi = api.Bound{Has: true, At: off(1)}
	}
	if kind == 4 {
		lo, hi = api.Bound{Has: true, At: r.anyForm(at)}, api.Bound{Has: true, At: r.anyForm(at)}
	}
	return lo, hi
}

// terms makes a row's: few of them, some told in two parts, some that make 0 together, some of variables that aren't there.
func (r chance) terms(variables int) (l []api.Term) {
	add := func(variable int, coef *big.Rat) {
		l = append(l, api.Term{Var: variable, Coef: r.anyForm(coef)})
	}
	for range []int{0, 1, 1, 2, 2, 2, 3, 4}[r.Intn(8)] {
		if variables == 0 {
			break
		}
		variable, coef := r.Intn(variables), r.small()
		if r.often(4) {
			part := r.small()
			add(variable, part)
			coef = minus(coef, part)
		}
		add(variable, coef)
		if r.often(8) {
			add(r.Intn(variables), coef)
			l = append(l, api.Term{Var: l[len(l)-1].Var, Coef: r.anyForm(turn(coef))})
		}
	}
	if r.often(6) {
		add([]int{-1, variables, variables + 3, 1 << 62, -1 << 63}[r.Intn(5)], r.small())
	}
	r.Shuffle(len(l), func(a, b int) { l[a], l[b] = l[b], l[a] })
	return l
}

// chain makes rows of a problem such that each waits for the next one: a variable goes only when the one behind it went.
func (r chance) chain(p api.Problem) {
	for i := range p.Rows {
		if i+1 < len(p.Vars) {
			p.Rows[i].Terms = []api.Term{{Var: i + 1, Coef: r.anyForm(big.NewRat(int64(1+r.Intn(3)), 1))}, {Var: i, Coef: r.anyForm(big.NewRat(int64(r.Intn(3)-3), 2))}}
		}
	}
}

// problem makes a problem of few variables and rows, and a point; it holds, but where a bound was made elsewhere by chance, or bounds are crossed.
func (r chance) problem() (api.Problem, []api.Rat) {
	p := api.Problem{Max: r.often(2), Name: "cost", Const: r.number()}
	for j := range r.Intn(7) {
		obj := r.number()
		if r.often(4) {
			obj = noughts()[r.Intn(len(noughts()))]
		}
		p.Vars = append(p.Vars, api.Var{Name: "x" + strconv.Itoa(j), Obj: obj, Whole: r.often(4)})
	}
	for i := range r.Intn(9) {
		p.Rows = append(p.Rows, api.Row{Name: "r" + strconv.Itoa(i), Terms: r.terms(len(p.Vars))})
	}
	chained := r.often(8)
	if chained {
		r.chain(p)
	}
	x := r.numbers(len(p.Vars))
	astray := 1 + r.Intn(2)*9
	for k, value := range valuesOf(p, x) {
		if astray > 1 && r.often(astray) {
			value = r.small()
		}
		lo, hi := r.bounds(value)
		if astray > 1 && r.often(10) {
			lo, hi = hi, lo
		}
		if chained && k >= len(p.Vars)-1 {
			lo, hi = api.Bound{Has: true, At: r.anyForm(value)}, api.Bound{Has: true, At: r.anyForm(value)}
		}
		if k < len(p.Vars) {
			p.Vars[k].Lo, p.Vars[k].Hi = lo, hi
		} else {
			p.Rows[k-len(p.Vars)].Lo, p.Rows[k-len(p.Vars)].Hi = lo, hi
		}
	}
	return p, x
}

// cert makes a certificate of any verdict, its lists too short, too long, missing, or as long as they should be; all of them are filled.
func (r chance) cert(q api.Problem) api.Cert {
	length := func(n int) int {
		switch r.Intn(6) {
		case 0:
			return 0
		case 1:
			return r.Intn(n + 1)
		case 2:
			return n + r.Intn(4)
		}
		return n
	}
	return api.Cert{Verdict: r.Intn(6) - 1, Value: r.number(), X: r.numbers(length(len(q.Vars))), Y: r.numbers(length(len(q.Rows))), Ray: r.numbers(length(len(q.Vars)))}
}

// solved solves a problem with its rows and variables in another order, so that it may come to another certificate.
func (r chance) solved(p api.Problem) api.Cert {
	vars, rows := r.Perm(len(p.Vars)), r.Perm(len(p.Rows))
	q := api.Problem{Max: p.Max, Const: p.Const}
	for _, j := range vars {
		q.Vars = append(q.Vars, p.Vars[j])
	}
	for _, i := range rows {
		row := p.Rows[i]
		row.Terms = slices.Clone(row.Terms)
		for k, term := range row.Terms {
			row.Terms[k].Var = slices.Index(vars, term.Var)
		}
		q.Rows = append(q.Rows, row)
	}
	c := back.Solve(q)
	order := func(l []api.Rat, places []int) []api.Rat {
		ordered := make([]api.Rat, len(l))
		for k := range l {
			ordered[places[k]] = l[k]
		}
		return ordered
	}
	c.X, c.Y, c.Ray = order(c.X, vars), order(c.Y, rows), order(c.Ray, vars)
	return c
}

// nudged changes one number of a certificate.
func (r chance) nudged(c api.Cert) api.Cert {
	for _, l := range []*[]api.Rat{&c.X, &c.Y, &c.Ray} {
		*l = slices.Clone(*l)
	}
	if l := [][]api.Rat{c.X, c.Y, c.Ray}[r.Intn(3)]; len(l) > 0 {
		l[r.Intn(len(l))] = r.number()
	}
	return c
}

// points makes points that hold, of a problem that has some: where other objectives are best, and some way along a ray, and between two of these.
func (r chance) points(p api.Problem) (l [][]api.Rat) {
	p.Vars = slices.Clone(p.Vars)
	mix := func(a, b []api.Rat, share *big.Rat) (x []api.Rat) {
		for j := range a {
			x = append(x, r.anyForm(plus(toBig(a[j]), times(share, toBig(b[j])))))
		}
		return x
	}
	for range 4 {
		for j := range p.Vars {
			p.Vars[j].Obj = r.number()
		}
		switch c := r.solved(p); c.Verdict {
		case api.Optimal:
			l = append(l, c.X)
		case api.Unbounded:
			l = append(l, mix(c.X, c.Ray, big.NewRat(int64(r.Intn(5)), 3)))
		}
	}
	for k := 1; k < len(l); k += 2 {
		// a + t (b - a) is (a - t a) + t b.
		share := big.NewRat(int64(r.Intn(8)), 7)
		l = append(l, mix(mix(l[k-1], l[k-1], turn(share)), l[k], share))
	}
	return l
}

// otherForm gives the same problem, its numbers told otherwise, terms split in two, with terms of no variable between them.
func (r chance) otherForm(p api.Problem) api.Problem {
	again := func(a api.Rat) api.Rat { return r.anyForm(toBig(a)) }
	bound := func(b api.Bound) api.Bound {
		if !b.Has {
			return api.Bound{At: r.number()}
		}
		return api.Bound{Has: true, At: again(b.At)}
	}
	c := api.Problem{Max: p.Max, Name: p.Name, Const: again(p.Const)}
	for _, v := range p.Vars {
		c.Vars = append(c.Vars, api.Var{Name: v.Name, Obj: again(v.Obj), Lo: bound(v.Lo), Hi: bound(v.Hi), Whole: v.Whole})
	}
	for _, row := range p.Rows {
		other := api.Row{Name: row.Name, Lo: bound(row.Lo), Hi: bound(row.Hi)}
		for _, term := range row.Terms {
			part := r.number()
			other.Terms = append(other.Terms, api.Term{Var: term.Var, Coef: part}, api.Term{Var: -1 - r.Intn(3), Coef: r.number()}, api.Term{Var: term.Var, Coef: r.anyForm(minus(toBig(term.Coef), toBig(part)))}, api.Term{Var: len(p.Vars) + r.Intn(3), Coef: r.number()})
		}
		c.Rows = append(c.Rows, other)
	}
	return c
}

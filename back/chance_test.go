package back_test

import (
	"math/big"
	"math/rand"

	"vertex/api"
)

// chance makes problems and outcomes, the same ones at each run.
type chance struct{ *rand.Rand }

func chances(seed int64) chance { return chance{rand.New(rand.NewSource(seed))} }

// number makes a number, most of them small, in any form.
func (r chance) number() api.Rat {
	n := big.NewRat(int64(r.Intn(9)-4), int64(1+r.Intn(3)))
	if r.Intn(40) == 0 {
		n.Mul(n, new(big.Rat).SetFrac(new(big.Int).Lsh(big.NewInt(5), uint(r.Intn(150))), big.NewInt(1+r.Int63())))
	}
	return r.anyForm(n)
}

// anyForm tells a number in one of its forms.
func (r chance) anyForm(n *big.Rat) api.Rat {
	a := fromBig(n)
	switch r.Intn(6) {
	case 0:
		return odd(n.RatString())
	case 1:
		a.Num.Mag, a.Den = append(a.Num.Mag, 0), append(a.Den, 0, 0)
	case 2:
		if n.Sign() == 0 {
			return noughts()[r.Intn(len(noughts()))]
		}
	}
	return a
}

func (r chance) numbers(n int) (l []api.Rat) {
	for range n {
		l = append(l, r.number())
	}
	return l
}

// bounds makes bounds of all kinds: none, one, alike, unlike, and now and then the wrong way about; numbers stand in absent ones too. What lies between is mostly at, and near it.
func (r chance) bounds(at *big.Rat) (lo, hi api.Bound) {
	off := func(sign int64) api.Rat {
		return r.anyForm(plus(at, big.NewRat(sign*int64(r.Intn(12)-1), int64(1+r.Intn(2)))))
	}
	lo, hi = api.Bound{At: off(-1)}, api.Bound{At: off(1)}
	switch r.Intn(7) {
	case 0, 1:
		lo.Has = true
	case 2:
		hi.Has = true
	case 3, 4:
		lo.Has, hi.Has = true, true
	case 5:
		lo, hi = api.Bound{Has: true, At: r.anyForm(at)}, api.Bound{Has: true, At: r.anyForm(at)}
	}
	return lo, hi
}

// problem makes a problem by hand, with terms of any places; points near one place hold more often than not.
func (r chance) problem() api.Problem { return r.problemOf(r.Intn(5), r.Intn(5)) }

func (r chance) problemOf(variables, rows int) api.Problem {
	p := api.Problem{Max: r.Intn(2) == 0, Const: r.number()}
	x := r.numbers(variables)
	for _, a := range x {
		v := api.Var{Obj: r.number(), Whole: r.Intn(4) == 0}
		v.Lo, v.Hi = r.bounds(toBig(a))
		p.Vars = append(p.Vars, v)
	}
	for range rows {
		var row api.Row
		for range r.Intn(variables + 3) {
			row.Terms = append(row.Terms, api.Term{Var: r.Intn(variables+4) - 2, Coef: r.number()})
		}
		sum := sumAt(p, row, x)
		if r.Intn(6) == 0 {
			sum = plus(sum, big.NewRat(int64(r.Intn(21)-10), 1))
		}
		row.Lo, row.Hi = r.bounds(sum)
		p.Rows = append(p.Rows, row)
	}
	return p
}

// outcome makes an outcome that no method made: any of its fields may be filled, whatever its verdict.
func (r chance) outcome() api.Outcome {
	return api.Outcome{
		Verdict: r.Intn(5),
		Value:   r.number(),
		Point:   r.numbers(r.Intn(14)),
		Mult:    r.numbers(r.Intn(10)),
		Ray:     r.numbers(r.Intn(14)),
		Basis:   r.Perm(r.Intn(4)),
		Pivots:  [3]int{r.Intn(3), r.Intn(3), r.Intn(3)},
		Trail:   [][]int{r.Perm(r.Intn(4)), nil},
	}
}

// otherForm gives the same problem, its numbers told otherwise, terms split in two, with terms of no variable between them.
func (r chance) otherForm(p api.Problem) api.Problem {
	again := func(a api.Rat) api.Rat { return r.anyForm(toBig(a)) }
	bound := func(b api.Bound) api.Bound {
		if !b.Has {
			return api.Bound{At: r.number()}
		}
		return api.Bound{Has: true, At: again(b.At)}
	}
	c := api.Problem{Max: p.Max, Const: again(p.Const)}
	for _, v := range p.Vars {
		c.Vars = append(c.Vars, api.Var{Obj: again(v.Obj), Lo: bound(v.Lo), Hi: bound(v.Hi), Whole: r.Intn(2) == 0})
	}
	for _, row := range p.Rows {
		other := api.Row{Lo: bound(row.Lo), Hi: bound(row.Hi)}
		for _, term := range row.Terms {
			part := r.number()
			other.Terms = append(other.Terms, api.Term{Var: term.Var, Coef: part}, api.Term{Var: -1 - r.Intn(3), Coef: r.number()}, api.Term{Var: term.Var, Coef: r.anyForm(minus(toBig(term.Coef), toBig(part)))})
		}
		c.Rows = append(c.Rows, other)
	}
	return c
}

// otherOrder gives a problem of the same value and verdict: its rows and its variables in another order, and its rows multiplied.
func (r chance) otherOrder(p api.Problem) api.Problem {
	c := api.Problem{Max: p.Max, Const: p.Const, Vars: make([]api.Var, len(p.Vars))}
	place := r.Perm(len(p.Vars))
	for j, k := range place {
		c.Vars[k] = p.Vars[j]
	}
	for _, i := range r.Perm(len(p.Rows)) {
		factor := big.NewRat(int64(r.Intn(4)*2-3), 2)
		row := api.Row{Lo: scaled(p.Rows[i].Lo, factor), Hi: scaled(p.Rows[i].Hi, factor)}
		if factor.Sign() < 0 {
			row.Lo, row.Hi = row.Hi, row.Lo
		}
		for _, term := range p.Rows[i].Terms {
			if 0 <= term.Var && term.Var < len(place) {
				row.Terms = append(row.Terms, api.Term{Var: place[term.Var], Coef: fromBig(times(factor, toBig(term.Coef)))})
			}
		}
		c.Rows = append(c.Rows, row)
	}
	return c
}

func scaled(b api.Bound, factor *big.Rat) api.Bound {
	return api.Bound{Has: b.Has, At: fromBig(times(factor, toBig(b.At)))}
}

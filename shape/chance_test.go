package shape_test

import (
	"math/big"
	"math/rand"

	"vertex/api"
)

// chance makes problems and points, the same ones at each run.
type chance struct{ *rand.Rand }

func chances(seed int64) chance { return chance{rand.New(rand.NewSource(seed))} }

// number makes a number, most of them small, in any form.
func (r chance) number() api.Rat {
	n := big.NewRat(int64(r.Intn(9)-4), int64(1+r.Intn(3)))
	if r.Intn(20) == 0 {
		n.Mul(n, new(big.Rat).SetFrac(new(big.Int).Lsh(big.NewInt(5), uint(r.Intn(200))), big.NewInt(1+r.Int63())))
	}
	return r.anyForm(n)
}

// anyForm tells a number in one of its forms.
func (r chance) anyForm(n *big.Rat) api.Rat {
	a := fromBig(n)
	switch r.Intn(6) {
	case 0:
		return odd(n.RatString())
	case 1:
		a.Num.Mag, a.Den = append(a.Num.Mag, 0), append(a.Den, 0, 0)
	case 2:
		if n.Sign() == 0 {
			return noughts()[r.Intn(len(noughts()))]
		}
	}
	return a
}

func (r chance) numbers(n int) (l []api.Rat) {
	for range n {
		l = append(l, r.number())
	}
	return l
}

// bounds makes bounds of all kinds: none, one, alike, unlike, and now and then the wrong way about; numbers stand in absent ones too. What lies between is often at, and near it.
func (r chance) bounds(at *big.Rat) (lo, hi api.Bound) {
	off := func(sign int64) api.Rat {
		return r.anyForm(new(big.Rat).Add(at, big.NewRat(sign*int64(r.Intn(14)-1), int64(1+r.Intn(2)))))
	}
	lo, hi = api.Bound{At: off(-1)}, api.Bound{At: off(1)}
	switch r.Intn(6) {
	case 0:
		lo.Has = true
	case 1:
		hi.Has = true
	case 2, 3:
		lo.Has, hi.Has = true, true
	case 4:
		same := new(big.Rat).Set(at)
		if r.Intn(12) == 0 {
			same = toBig(r.number())
		}
		lo, hi = api.Bound{Has: true, At: r.anyForm(same)}, api.Bound{Has: true, At: r.anyForm(same)}
	}
	return lo, hi
}

// problem makes a problem by hand, with terms of any places, and a point at which it is often that it holds.
func (r chance) problem() (p api.Problem, x []api.Rat) {
	p = api.Problem{Max: r.Intn(2) == 0, Const: r.number()}
	x = r.numbers(r.Intn(5))
	for _, a := range x {
		v := api.Var{Obj: r.number(), Whole: r.Intn(4) == 0}
		v.Lo, v.Hi = r.bounds(toBig(a))
		p.Vars = append(p.Vars, v)
	}
	for range r.Intn(5) {
		var row api.Row
		sum := new(big.Rat)
		for range r.Intn(7) {
			place := r.Intn(len(x)+4) - 2
			row.Terms = append(row.Terms, api.Term{Var: place, Coef: r.number()})
			sum.Add(sum, times(toBig(row.Terms[len(row.Terms)-1].Coef), numberIn(x, place)))
		}
		row.Lo, row.Hi = r.bounds(sum)
		p.Rows = append(p.Rows, row)
	}
	return p, x
}

package warm_test

import (
	"math"
	"math/big"
	"math/rand"

	"vertex/api"
	"vertex/climb"
)

// chance makes standards and lists of columns, the same ones at each run.
type chance struct{ *rand.Rand }

func chances(seed int64) chance { return chance{rand.New(rand.NewSource(seed))} }

// number makes a number, most of them small, in any form.
func (r chance) number() api.Rat {
	n := big.NewRat(int64(r.Intn(7)-3), int64(1+r.Intn(2)))
	if r.Intn(30) == 0 {
		n.Mul(n, new(big.Rat).SetFrac(new(big.Int).Lsh(big.NewInt(5), uint(r.Intn(200))), big.NewInt(1+r.Int63())))
	}
	return r.anyForm(n)
}

// anyForm tells a number in one of its forms.
func (r chance) anyForm(n *big.Rat) api.Rat {
	a := fromBig(n)
	switch r.Intn(6) {
	case 0:
		return odd(n.RatString())
	case 1:
		a.Num.Mag, a.Den = append(a.Num.Mag, 0), append(a.Den, 0, 0)
	case 2:
		if n.Sign() == 0 {
			return noughts()[r.Intn(len(noughts()))]
		}
	}
	return a
}

func (r chance) numbers(n int) (l []api.Rat) {
	for range n {
		l = append(l, r.number())
	}
	return l
}

// notBelow makes numbers that aren't below nought, about half of them 0.
func (r chance) notBelow(n int) (l []api.Rat) {
	for range n {
		l = append(l, r.anyForm(whole(int64(r.Intn(2)*r.Intn(4)))))
	}
	return l
}

// rowOf makes a row: some too short, some too long, some that say what another one does.
func (r chance) rowOf(others [][]api.Rat, n int) []api.Rat {
	switch r.Intn(8) {
	case 0:
		return r.numbers(r.Intn(n + 1))
	case 1:
		return r.numbers(n + 1 + r.Intn(3))
	case 2, 3:
		if len(others) > 0 {
			return others[r.Intn(len(others))]
		}
	}
	return r.numbers(n)
}

// standard makes a standard by hand, of at most so many rows and columns. Most have a point; rows may be missing or too many.
func (r chance) standard(rows, columns int) (s api.Standard) {
	m, n := r.Intn(rows+1), r.Intn(columns+1)
	s.B, s.C, s.K = r.numbers(m), r.numbers(n), r.number()
	for range m {
		s.A = append(s.A, r.rowOf(s.A, n))
	}
	switch r.Intn(8) {
	case 0:
		s.A = s.A[:r.Intn(m+1)]
	case 1:
		s.A = append(s.A, r.numbers(n), nil)
	}
	if r.Intn(4) > 0 {
		s.B = r.meeting(s, r.notBelow(n))
	}
	if r.Intn(3) == 0 {
		s.C = r.above(s)
	}
	return s
}

// meeting gives right sides such that y meets a standard's rows.
func (r chance) meeting(s api.Standard, y []api.Rat) (l []api.Rat) {
	for i := range s.B {
		l = append(l, r.anyForm(sumAlong(s, i, y)))
	}
	return l
}

// above gives costs of which it is sure that they can't fall for ever: a sum of the rows, and something not below nought.
func (r chance) above(s api.Standard) (l []api.Rat) {
	mult, more := r.numbers(len(s.B)), r.notBelow(len(s.C))
	for j := range s.C {
		l = append(l, r.anyForm(plus(toBig(more[j]), sumDown(s, j, mult))))
	}
	return l
}

// otherForm gives the same standard, its numbers told otherwise: with lists that are longer, or shorter by noughts at the end.
func (r chance) otherForm(s api.Standard) (c api.Standard) {
	again := func(l []api.Rat) (c []api.Rat) {
		for _, a := range l {
			c = append(c, r.anyForm(toBig(a)))
		}
		return c
	}
	c.B, c.C, c.K = again(s.B), again(s.C), r.anyForm(toBig(s.K))
	for i := range s.B {
		var numbers []api.Rat
		for j := range s.C {
			numbers = append(numbers, r.anyForm(entryOf(s, i, j)))
		}
		switch r.Intn(3) {
		case 0:
			numbers = append(numbers, r.numbers(r.Intn(3))...)
		case 1:
			for len(numbers) > 0 && toBig(numbers[len(numbers)-1]).Sign() == 0 {
				numbers = numbers[:len(numbers)-1]
			}
		}
		c.A = append(c.A, numbers)
	}
	switch r.Intn(3) {
	case 0:
		c.A = append(c.A, r.numbers(len(s.C)), r.numbers(3))
	case 1:
		for len(c.A) > 0 && len(c.A[len(c.A)-1]) == 0 {
			c.A = c.A[:len(c.A)-1]
		}
	}
	return c
}

// slacked makes a standard in which each row has a column of its own, in any order, and whose costs are not below nought: a list of these columns goes the dual way, if a right side is below nought there.
func (r chance) slacked(rows, columns int) (s api.Standard, list []int) {
	m, n := 1+r.Intn(rows), 1+r.Intn(columns)
	order := r.Perm(n + m)
	list = order[n:]
	s.B, s.C, s.K = r.numbers(m), r.notBelow(n+m), r.number()
	for i := range m {
		numbers := r.numbers(n + m)
		for k, j := range list {
			numbers[j] = r.anyForm(whole(0))
			if k == i {
				numbers[j] = r.anyForm(whole(1))
				s.C[j] = r.anyForm(whole(0))
			}
		}
		s.A = append(s.A, numbers)
	}
	return s, list
}

// columns makes a list of columns of a standard, and of other numbers.
func (r chance) columns(s api.Standard) (list []int) {
	n, m := len(s.C), len(s.B)
	switch r.Intn(5) {
	case 0:
		return nil
	case 1:
		return r.Perm(n)[:min(n, m)]
	case 2:
		list = climb.Run(s).Basis
		if len(list) > 0 && r.Intn(2) == 0 {
			list[r.Intn(len(list))] = r.Intn(n)
		}
		return list
	}
	for range r.Intn(n + m + 3) {
		list = append(list, r.Intn(n+2*m+4)-m-2)
		if r.Intn(20) == 0 {
			list = append(list, math.MaxInt, math.MinInt, list[0])
		}
	}
	return list
}

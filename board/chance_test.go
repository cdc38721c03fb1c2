package board_test

import (
	"math/big"
	"math/rand"

	"vertex/api"
)

// chance makes standards and what is done to their boards, the same ones at each run.
type chance struct{ *rand.Rand }

func chances(seed int64) chance { return chance{rand.New(rand.NewSource(seed))} }

// number makes a number, most of them small, in any form.
func (r chance) number() api.Rat {
	n := big.NewRat(int64(r.Intn(7)-3), int64(1+r.Intn(2)))
	if r.Intn(30) == 0 {
		n.Mul(n, new(big.Rat).SetFrac(new(big.Int).Lsh(big.NewInt(5), uint(r.Intn(200))), big.NewInt(1+r.Int63())))
	}
	return r.anyForm(n)
}

// anyForm tells a number in one of its forms.
func (r chance) anyForm(n *big.Rat) api.Rat {
	a := fromBig(n)
	switch r.Intn(6) {
	case 0:
		return odd(n.RatString())
	case 1:
		a.Num.Mag, a.Den = append(a.Num.Mag, 0), append(a.Den, 0, 0)
	case 2:
		if n.Sign() == 0 {
			return noughts()[r.Intn(len(noughts()))]
		}
	}
	return a
}

func (r chance) numbers(n int) (l []api.Rat) {
	for range n {
		l = append(l, r.number())
	}
	return l
}

// standard makes a standard by hand: rows that are too short, too long, missing or too many among them, and some that are others' sums.
func (r chance) standard() (s api.Standard) {
	m, n := r.Intn(5), r.Intn(6)
	s.B, s.C, s.K = r.numbers(m), r.numbers(n), r.number()
	for range m {
		numbers := r.numbers(n)
		switch r.Intn(8) {
		case 0:
			numbers = r.numbers(r.Intn(n + 1))
		case 1:
			numbers = r.numbers(n + 1 + r.Intn(3))
		case 2:
			if len(s.A) > 0 {
				numbers = s.A[r.Intn(len(s.A))]
			}
		}
		s.A = append(s.A, numbers)
	}
	switch r.Intn(8) {
	case 0:
		s.A = s.A[:r.Intn(m+1)]
	case 1:
		s.A = append(s.A, r.numbers(n), nil)
	}
	return s
}

// costs makes a list of costs, now and then of another length.
func (r chance) costs(b tableau) []api.Rat {
	if r.Intn(3) == 0 {
		return r.numbers(r.Intn(b.Cols() + 3))
	}
	return r.numbers(b.Cols())
}

// place gives a place below n, now and then one on either side.
func (r chance) place(n int) int {
	if r.Intn(12) == 0 {
		return []int{-1, n, n + 1, -5}[r.Intn(4)]
	}
	return r.Intn(n + 1)
}

// change does the same thing to some boards, and gives their errors.
func (r chance) change(boards ...tableau) (errs []error) {
	one := boards[0]
	i, j, c := r.place(one.Rows()), r.place(one.Cols()), r.costs(one)
	what := r.Intn(14)
	if k := one.Leave(j); k >= 0 && r.Intn(2) == 0 {
		i = k
	}
	for _, b := range boards {
		switch what {
		case 0:
			errs = append(errs, b.Drop(i))
		case 1, 2, 3:
			b.Cost(c)
			errs = append(errs, nil)
		default:
			errs = append(errs, b.Pivot(i, j))
		}
	}
	return errs
}

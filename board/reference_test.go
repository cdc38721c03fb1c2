package board_test

import (
	"math/big"
	"slices"

	"vertex/api"
)

// plain is a board by the promises' words, all its numbers written out, in math/big.
type plain struct {
	n, m   int
	a      [][]*big.Rat
	right  []*big.Rat
	basis  []int
	turned []bool
	costs  []*big.Rat
}

func plainOf(s api.Standard) *plain {
	p := &plain{n: len(s.C), m: len(s.B)}
	for i, right := range s.B {
		numbers := make([]*big.Rat, p.n+p.m)
		turn := whole(1)
		if toBig(right).Sign() < 0 {
			turn = whole(-1)
		}
		for j := range numbers {
			numbers[j] = times(turn, entryOf(s, i, j))
		}
		numbers[p.n+i] = whole(1)
		p.a, p.right = append(p.a, numbers), append(p.right, times(turn, toBig(right)))
		p.basis, p.turned = append(p.basis, p.n+i), append(p.turned, turn.Sign() < 0)
	}
	p.Cost(nil)
	return p
}

func (p *plain) Rows() int { return p.m }

func (p *plain) Cols() int { return p.n + p.m }

func (p *plain) row(i int) bool { return i >= 0 && i < p.m }

func (p *plain) column(j int) bool { return j >= 0 && j < p.n+p.m }

func (p *plain) At(i, j int) api.Rat {
	if p.row(i) && p.column(j) {
		return fromBig(p.a[i][j])
	}
	return num("0")
}

func (p *plain) Right(i int) api.Rat {
	if p.row(i) {
		return fromBig(p.right[i])
	}
	return num("0")
}

func (p *plain) Basis() []int { return slices.Clone(p.basis) }

func (p *plain) Turned(i int) bool { return p.row(i) && p.turned[i] }

func (p *plain) Cost(c []api.Rat) {
	p.costs = nil
	for j := range p.n + p.m {
		p.costs = append(p.costs, numberIn(c, j))
	}
}

func (p *plain) Reduced(j int) api.Rat {
	if !p.column(j) {
		return num("0")
	}
	sum := p.costs[j]
	for i, k := range p.basis {
		if k >= 0 {
			sum = minus(sum, times(p.costs[k], p.a[i][j]))
		}
	}
	return fromBig(sum)
}

func (p *plain) Worth() api.Rat {
	sum := whole(0)
	for i, k := range p.basis {
		if k >= 0 {
			sum = plus(sum, times(p.costs[k], p.right[i]))
		}
	}
	return fromBig(sum)
}

func (p *plain) Mult(i int) api.Rat {
	if !p.row(i) {
		return num("0")
	}
	mult := minus(p.costs[p.n+i], toBig(p.Reduced(p.n+i)))
	if p.turned[i] {
		mult.Neg(mult)
	}
	return fromBig(mult)
}

func (p *plain) Enter(n int) int {
	for j := range p.n + p.m {
		if j < n && !slices.Contains(p.basis, j) && toBig(p.Reduced(j)).Sign() < 0 {
			return j
		}
	}
	return -1
}

func (p *plain) Leave(j int) int {
	var rows []int
	for i := range p.basis {
		if p.basis[i] >= 0 && toBig(p.At(i, j)).Sign() > 0 {
			rows = append(rows, i)
		}
	}
	if len(rows) == 0 {
		return -1
	}
	return slices.MinFunc(rows, func(i, k int) int {
		if c := by(p.right[i], p.a[i][j]).Cmp(by(p.right[k], p.a[k][j])); c != 0 {
			return c
		}
		return p.basis[i] - p.basis[k]
	})
}

func (p *plain) Pivot(i, j int) error {
	if !p.row(i) || !p.column(j) || p.basis[i] < 0 {
		return api.ErrArg
	}
	at := p.a[i][j]
	if at.Sign() == 0 {
		return api.ErrPivot
	}
	for c := range p.a[i] {
		p.a[i][c] = by(p.a[i][c], at)
	}
	p.right[i] = by(p.right[i], at)
	for k := range p.a {
		if k == i {
			continue
		}
		often := p.a[k][j]
		for c := range p.a[k] {
			p.a[k][c] = minus(p.a[k][c], times(often, p.a[i][c]))
		}
		p.right[k] = minus(p.right[k], times(often, p.right[i]))
	}
	p.basis[i] = j
	return nil
}

func (p *plain) Drop(i int) error {
	if !p.row(i) || p.basis[i] < 0 {
		return api.ErrArg
	}
	p.basis[i] = -1
	return nil
}

// another is a copy of its own.
func (p *plain) another() *plain {
	c := *p
	c.a, c.right, c.basis, c.costs = nil, slices.Clone(p.right), slices.Clone(p.basis), slices.Clone(p.costs)
	for _, numbers := range p.a {
		c.a = append(c.a, slices.Clone(numbers))
	}
	return &c
}

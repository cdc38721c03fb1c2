package board

import (
	"vertex/api"
	"vertex/rat"
)

// Cost sets the costs of the columns: P11.3.
func (b *Board) Cost(c []api.Rat) {
	b.costs = nil
	for j, a := range c[:min(len(c), b.Cols())] {
		b.costs = b.costs.with(j, rat.Norm(a))
	}
}

// basisCost tells, of each row that is there, the cost of its basic column times one of its numbers, all together.
func (b *Board) basisCost(number func(r row) api.Rat) api.Rat {
	sum := rat.Of(0)
	for _, r := range b.rows {
		if r.isGone() {
			continue
		}
		// Most of these are nought, and looking is cheaper than reckoning.
		cost, a := b.costs.at(r.basic), number(r)
		if rat.Sign(cost) != 0 && rat.Sign(a) != 0 {
			sum = rat.Add(sum, rat.Mul(cost, a))
		}
	}
	return sum
}

// Reduced tells a column's reduced cost: P11.3.
func (b *Board) Reduced(j int) api.Rat {
	return rat.Sub(b.costs.at(j), b.basisCost(func(r row) api.Rat { return r.numbers.at(j) }))
}

// Worth tells what the basis costs: P11.3.
func (b *Board) Worth() api.Rat {
	return b.basisCost(func(r row) api.Rat { return r.right })
}

// Mult tells the multiplier of a row as it stood at the beginning: P11.4.
func (b *Board) Mult(i int) api.Rat {
	if !b.isRow(i) {
		return rat.Of(0)
	}
	artificial := b.own + i
	mult := rat.Sub(b.costs.at(artificial), b.Reduced(artificial))
	if b.rows[i].turned {
		return rat.Neg(mult)
	}
	return mult
}

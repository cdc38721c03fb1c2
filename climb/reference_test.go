package climb_test

import (
	"math/big"
	"slices"

	"vertex/api"
)

// state is a basis of a standard. What a board would have is reckoned afresh from the standard each time it is asked for, without pivots, in math/big.
type state struct {
	s     api.Standard
	n, m  int
	basis []int // of each row; of one that is gone the column that it had
	gone  []bool
}

func firstState(s api.Standard) *state {
	p := &state{s: s, n: len(s.C), m: len(s.B), gone: make([]bool, len(s.B))}
	for i := range p.m {
		p.basis = append(p.basis, p.n+i)
	}
	return p
}

// turned tells whether a row's right side is below nought.
func (p *state) turned(i int) bool { return toBig(p.s.B[i]).Sign() < 0 }

// first is a number of a row at the beginning; behind the last column stands the right side.
func (p *state) first(i, j int) *big.Rat {
	a := whole(0)
	switch {
	case j == p.n+i:
		return whole(1)
	case j == p.n+p.m:
		a = toBig(p.s.B[i])
	case j < p.n:
		a = entryOf(p.s, i, j)
	}
	if p.turned(i) {
		return turn(a)
	}
	return a
}

// table gives all rows, so that row i has 1 in its basic column, and the others have 0 there: by Gauss and Jordan, of the basic columns with all others behind them.
func (p *state) table() (t [][]*big.Rat) {
	for i := range p.m {
		var numbers []*big.Rat
		for _, j := range p.basis {
			numbers = append(numbers, p.first(i, j))
		}
		for j := range p.n + p.m + 1 {
			numbers = append(numbers, p.first(i, j))
		}
		t = append(t, numbers)
	}
	for k := range p.m {
		found := k + slices.IndexFunc(t[k:], func(numbers []*big.Rat) bool { return numbers[k].Sign() != 0 })
		t[k], t[found] = t[found], t[k]
		at := t[k][k]
		for c := range t[k] {
			t[k][c] = by(t[k][c], at)
		}
		for i := range t {
			often := t[i][k]
			for c := range t[i] {
				if i != k {
					t[i][c] = minus(t[i][c], times(often, t[k][c]))
				}
			}
		}
	}
	for i := range t {
		t[i] = t[i][p.m:]
	}
	return t
}

// reduced is a column's cost less what the basic columns cost there; of the right sides it is what they cost, turned.
func (p *state) reduced(t [][]*big.Rat, costs []*big.Rat, j int) *big.Rat {
	sum := whole(0)
	if j < len(costs) {
		sum = costs[j]
	}
	for i, k := range p.basis {
		if !p.gone[i] {
			sum = minus(sum, times(costs[k], t[i][j]))
		}
	}
	return sum
}

func (p *state) worth(t [][]*big.Rat, costs []*big.Rat) *big.Rat {
	return turn(p.reduced(t, costs, p.n+p.m))
}

func (p *state) mult(t [][]*big.Rat, costs []*big.Rat) (l []api.Rat) {
	for i := range p.m {
		mult := minus(costs[p.n+i], p.reduced(t, costs, p.n+i))
		if p.turned(i) {
			mult = turn(mult)
		}
		l = append(l, fromBig(mult))
	}
	return l
}

// isBasic tells whether a row that is there has the column.
func (p *state) isBasic(j int) bool {
	i := slices.Index(p.basis, j)
	return i >= 0 && !p.gone[i]
}

// next gives the column and the row of the pivot by Bland's rule; -1 where there is none.
func (p *state) next(t [][]*big.Rat, costs []*big.Rat) (row, column int) {
	column = 0
	for column < p.n && (p.isBasic(column) || p.reduced(t, costs, column).Sign() >= 0) {
		column++
	}
	if column == p.n {
		return -1, -1
	}
	var rows []int
	for i := range t {
		if !p.gone[i] && t[i][column].Sign() > 0 {
			rows = append(rows, i)
		}
	}
	if len(rows) == 0 {
		return -1, column
	}
	return slices.MinFunc(rows, func(i, k int) int {
		if c := by(t[i][p.n+p.m], t[i][column]).Cmp(by(t[k][p.n+p.m], t[k][column])); c != 0 {
			return c
		}
		return p.basis[i] - p.basis[k]
	}), column
}

func (p *state) asTold() (l []int) {
	for i, j := range p.basis {
		if !p.gone[i] {
			l = append(l, j)
		}
	}
	slices.Sort(l)
	return l
}

// step changes the basis, as a pivot does, and notes it.
func (p *state) step(o *api.Outcome, part, i, j int) {
	p.basis[i] = j
	o.Pivots[part]++
	o.Trail = append(o.Trail, p.asTold())
}

// secondRun is Run by the promises' words: P12.1 to P12.4.
func secondRun(s api.Standard) api.Outcome {
	p := firstState(s)
	o := api.Outcome{Trail: [][]int{p.asTold()}}
	var costs []*big.Rat
	for j := range p.n + p.m {
		costs = append(costs, whole(0))
		if j >= p.n {
			costs[j] = whole(1)
		}
	}
	for {
		i, j := p.next(p.table(), costs)
		if j < 0 {
			break
		}
		p.step(&o, 0, i, j)
	}
	if t := p.table(); p.worth(t, costs).Sign() > 0 {
		o.Verdict, o.Mult = api.Infeasible, p.mult(t, costs)
		return o
	}
	for i := range p.m {
		if p.basis[i] < p.n {
			continue
		}
		numbers := p.table()[i][:p.n]
		if j := slices.IndexFunc(numbers, func(a *big.Rat) bool { return a.Sign() != 0 }); j >= 0 {
			p.step(&o, 1, i, j)
		} else {
			p.gone[i] = true
		}
	}
	p.secondUp(&o, s)
	return o
}

// isReady tells whether Up goes on from here: P12.5.
func (p *state) isReady() bool {
	t := p.table()
	for i, j := range p.basis {
		if !p.gone[i] && (j >= p.n || t[i][p.n+p.m].Sign() < 0) {
			return false
		}
	}
	return true
}

// secondUp is Up by the promises' words, noted in an outcome that has begun: P12.5.
func (p *state) secondUp(o *api.Outcome, s api.Standard) {
	var costs []*big.Rat
	for j := range p.n + p.m {
		costs = append(costs, whole(0))
		if j < p.n {
			costs[j] = numberIn(s.C, j)
		}
	}
	i, j := p.next(p.table(), costs)
	for ; i >= 0; i, j = p.next(p.table(), costs) {
		p.step(o, 2, i, j)
	}
	t := p.table()
	o.Basis = p.asTold()
	for c := range p.n {
		point, ray := whole(0), whole(0)
		if p.isBasic(c) {
			row := t[slices.Index(p.basis, c)]
			point = row[p.n+p.m]
			if j >= 0 {
				ray = turn(row[j])
			}
		}
		if c == j {
			ray = whole(1)
		}
		o.Point, o.Ray = append(o.Point, fromBig(point)), append(o.Ray, fromBig(ray))
	}
	if j >= 0 {
		o.Verdict = api.Unbounded
		return
	}
	o.Verdict, o.Value, o.Mult, o.Ray = api.Optimal, fromBig(plus(p.worth(t, costs), toBig(s.K))), p.mult(t, costs), nil
}

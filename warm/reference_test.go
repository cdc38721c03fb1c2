package warm_test

import (
	"fmt"
	"math/big"
	"slices"
	"strings"

	"vertex/api"
	"vertex/climb"
)

// state is a basis of a standard. What a board would have is reckoned afresh from the standard each time it is asked for, without pivots, in math/big.
type state struct {
	s     api.Standard
	n, m  int
	basis []int // of each row; of one that is gone the column that it had
	gone  []bool
}

func firstState(s api.Standard) *state {
	p := &state{s: s, n: len(s.C), m: len(s.B), gone: make([]bool, len(s.B))}
	for i := range p.m {
		p.basis = append(p.basis, p.n+i)
	}
	return p
}

// turned tells whether a row's right side is below nought.
func (p *state) turned(i int) bool { return toBig(p.s.B[i]).Sign() < 0 }

// first is a number of a row at the beginning; behind the last column stands the right side.
func (p *state) first(i, j int) *big.Rat {
	a := whole(0)
	switch {
	case j == p.n+i:
		return whole(1)
	case j == p.n+p.m:
		a = toBig(p.s.B[i])
	case j < p.n:
		a = entryOf(p.s, i, j)
	}
	if p.turned(i) {
		return turn(a)
	}
	return a
}

// table gives all rows, so that row i has 1 in its basic column, and the others have 0 there: by Gauss and Jordan, of the basic columns with all others behind them.
func (p *state) table() (t [][]*big.Rat) {
	for i := range p.m {
		var numbers []*big.Rat
		for _, j := range p.basis {
			numbers = append(numbers, p.first(i, j))
		}
		for j := range p.n + p.m + 1 {
			numbers = append(numbers, p.first(i, j))
		}
		t = append(t, numbers)
	}
	for k := range p.m {
		found := k + slices.IndexFunc(t[k:], func(numbers []*big.Rat) bool { return numbers[k].Sign() != 0 })
		t[k], t[found] = t[found], t[k]
		at := t[k][k]
		for c := range t[k] {
			t[k][c] = by(t[k][c], at)
		}
		for i := range t {
			often := t[i][k]
			for c := range t[i] {
				if i != k {
					t[i][c] = minus(t[i][c], times(often, t[k][c]))
				}
			}
		}
	}
	for i := range t {
		t[i] = t[i][p.m:]
	}
	return t
}

// reduced is a column's cost less what the basic columns cost there; of the right sides it is what they cost, turned.
func (p *state) reduced(t [][]*big.Rat, costs []*big.Rat, j int) *big.Rat {
	sum := whole(0)
	if j < len(costs) {
		sum = costs[j]
	}
	for i, k := range p.basis {
		if !p.gone[i] {
			sum = minus(sum, times(costs[k], t[i][j]))
		}
	}
	return sum
}

func (p *state) worth(t [][]*big.Rat, costs []*big.Rat) *big.Rat {
	return turn(p.reduced(t, costs, p.n+p.m))
}

func (p *state) mult(t [][]*big.Rat, costs []*big.Rat) (l []api.Rat) {
	for i := range p.m {
		mult := minus(costs[p.n+i], p.reduced(t, costs, p.n+i))
		if p.turned(i) {
			mult = turn(mult)
		}
		l = append(l, fromBig(mult))
	}
	return l
}

// isBasic tells whether a row that is there has the column.
func (p *state) isBasic(j int) bool {
	i := slices.Index(p.basis, j)
	return i >= 0 && !p.gone[i]
}

// next gives the column and the row of the pivot by Bland's rule; -1 where there is none.
func (p *state) next(t [][]*big.Rat, costs []*big.Rat) (row, column int) {
	column = 0
	for column < p.n && (p.isBasic(column) || p.reduced(t, costs, column).Sign() >= 0) {
		column++
	}
	if column == p.n {
		return -1, -1
	}
	var rows []int
	for i := range t {
		if !p.gone[i] && t[i][column].Sign() > 0 {
			rows = append(rows, i)
		}
	}
	if len(rows) == 0 {
		return -1, column
	}
	return slices.MinFunc(rows, func(i, k int) int {
		if c := by(t[i][p.n+p.m], t[i][column]).Cmp(by(t[k][p.n+p.m], t[k][column])); c != 0 {
			return c
		}
		return p.basis[i] - p.basis[k]
	}), column
}

// asTold gives the basic columns of the rows that are there, rising.
func (p *state) asTold() (l []int) {
	for i, j := range p.basis {
		if !p.gone[i] {
			l = append(l, j)
		}
	}
	slices.Sort(l)
	return l
}

// costs are those of the standard, 0 on the artificial columns.
func (p *state) costs() (l []*big.Rat) {
	for j := range p.n + p.m {
		l = append(l, whole(0))
		if j < p.n {
			l[j] = numberIn(p.s.C, j)
		}
	}
	return l
}

// shown writes out what a board in this state answers as long as it wasn't told any costs.
func (p *state) shown() string {
	var w strings.Builder
	basis := slices.Clone(p.basis)
	for i := range basis {
		if p.gone[i] {
			basis[i] = -1
		}
	}
	fmt.Fprintf(&w, "basis %v, worth 0", basis)
	for i, numbers := range p.table() {
		fmt.Fprintf(&w, "\n%d:", i)
		for _, a := range numbers[:p.n+p.m] {
			w.WriteString(" " + a.RatString())
		}
		fmt.Fprintf(&w, " = %s, %v, mult 0", numbers[p.n+p.m].RatString(), p.turned(i))
	}
	return w.String() + strings.Repeat("\n0", p.n+p.m)
}

// place is Place by the promises' words; it tells how many pivots there are: P16.1 to P16.3.
func (p *state) place(list []int) (pivots int, isWhole bool) {
	for _, j := range list {
		if j < 0 || j >= p.n || p.isBasic(j) {
			continue
		}
		t := p.table()
		for i := range p.m {
			if p.basis[i] >= p.n && t[i][j].Sign() != 0 {
				p.basis[i] = j
				pivots++
				break
			}
		}
	}
	for i := range p.m {
		if p.basis[i] < p.n {
			continue
		}
		numbers := p.table()[i]
		j := slices.IndexFunc(numbers[:p.n], func(a *big.Rat) bool { return a.Sign() != 0 })
		if j < 0 && numbers[p.n+p.m].Sign() != 0 {
			return pivots, false
		}
		if j < 0 {
			p.gone[i] = true
			continue
		}
		p.basis[i] = j
		pivots++
	}
	return pivots, true
}

// below gives the rows that are there with a right side below nought.
func (p *state) below(t [][]*big.Rat) (rows []int) {
	for i := range t {
		if !p.gone[i] && t[i][p.n+p.m].Sign() < 0 {
			rows = append(rows, i)
		}
	}
	return rows
}

// isDual tells whether no reduced cost of a column of the standard is below nought.
func (p *state) isDual() bool {
	t, costs := p.table(), p.costs()
	for j := range p.n {
		if p.reduced(t, costs, j).Sign() < 0 {
			return false
		}
	}
	return true
}

// descend is the dual method by the promises' words, noted in an outcome: P16.5.
func (p *state) descend(o *api.Outcome) {
	costs := p.costs()
	for t := p.table(); len(p.below(t)) > 0; t = p.table() {
		i := slices.MinFunc(p.below(t), func(i, k int) int { return p.basis[i] - p.basis[k] })
		var columns []int
		for j := range p.n {
			if !p.isBasic(j) && t[i][j].Sign() < 0 {
				columns = append(columns, j)
			}
		}
		if len(columns) == 0 {
			o.Verdict = api.Infeasible
			for k := range p.m {
				mult := turn(t[i][p.n+k])
				if p.turned(k) {
					mult = turn(mult)
				}
				o.Mult = append(o.Mult, fromBig(mult))
			}
			return
		}
		p.basis[i] = slices.MinFunc(columns, func(j, k int) int {
			one, other := p.reduced(t, costs, j), p.reduced(t, costs, k)
			return by(one, turn(t[i][j])).Cmp(by(other, turn(t[i][k])))
		})
		o.Pivots[1]++
	}
}

// secondRun is Run by the promises' words, and tells which of its cases it was: P16.4.
func secondRun(s api.Standard, list []int) (o api.Outcome, which string) {
	p := firstState(s)
	placed, isWhole := p.place(list)
	if !isWhole {
		return climb.Run(s), "a row that nothing meets"
	}
	o.Pivots[0] = placed
	if len(p.below(p.table())) == 0 {
		p.up(&o)
		return o, "up"
	}
	if !p.isDual() {
		return climb.Run(s), "from the beginning"
	}
	p.descend(&o)
	if o.Verdict == api.Infeasible {
		return o, "dual, infeasible"
	}
	p.up(&o)
	return o, "dual, optimal"
}

// up is climb.Up by its chapter's words, without the trail, noted in an outcome.
func (p *state) up(o *api.Outcome) {
	costs := p.costs()
	i, j := p.next(p.table(), costs)
	for ; i >= 0; i, j = p.next(p.table(), costs) {
		p.basis[i] = j
		o.Pivots[2]++
	}
	t := p.table()
	o.Basis = p.asTold()
	for c := range p.n {
		point, ray := whole(0), whole(0)
		if p.isBasic(c) {
			row := t[slices.Index(p.basis, c)]
			point = row[p.n+p.m]
			if j >= 0 {
				ray = turn(row[j])
			}
		}
		if c == j {
			ray = whole(1)
		}
		o.Point, o.Ray = append(o.Point, fromBig(point)), append(o.Ray, fromBig(ray))
	}
	if j >= 0 {
		o.Verdict = api.Unbounded
		return
	}
	o.Verdict, o.Value, o.Mult, o.Ray = api.Optimal, fromBig(plus(p.worth(t, costs), toBig(p.s.K))), p.mult(t, costs), nil
}

package span_test

import (
	"math/big"
	"slices"
	"strconv"

	"vertex/api"
)

// column is a column of a standard, or any list of a number a row.
type column []*big.Rat

func columnOf(s api.Standard, j int) (c column) {
	for i := range s.B {
		c = append(c, entryOf(s, i, j))
	}
	return c
}

func rightsOf(s api.Standard) (c column) {
	for _, right := range s.B {
		c = append(c, toBig(right))
	}
	return c
}

// unit has 1 in one row, 0 in the others.
func unit(rows, i int) (c column) {
	for k := range rows {
		c = append(c, whole(0))
		if k == i {
			c[k] = whole(1)
		}
	}
	return c
}

// dot is the sum of the products of two lists, as far as both go.
func dot(a, b []*big.Rat) *big.Rat {
	sum := whole(0)
	for i := range min(len(a), len(b)) {
		sum = plus(sum, times(a[i], b[i]))
	}
	return sum
}

// express tells each of some targets as a sum of columns: with which factors; nil, if it is none. The columns have to be independent: false, if they aren't. (By Gauss and Jordan, the targets behind the columns.)
func express(rows int, columns, targets []column) (factors [][]*big.Rat, independent bool) {
	t := make([][]*big.Rat, rows)
	for i := range t {
		for _, c := range slices.Concat(columns, targets) {
			t[i] = append(t[i], c[i])
		}
	}
	for k := range columns {
		found := slices.IndexFunc(t[min(k, rows):], func(numbers []*big.Rat) bool { return numbers[k].Sign() != 0 })
		if found < 0 {
			return nil, false
		}
		t[k], t[k+found] = t[k+found], t[k]
		clearColumn(t, k)
	}
	for c := range targets {
		l := []*big.Rat{}
		for i := range t {
			number := t[i][len(columns)+c]
			if i < len(columns) {
				l = append(l, number)
			} else if number.Sign() != 0 {
				l = nil
				break
			}
		}
		factors = append(factors, l)
	}
	return factors, true
}

// clearColumn makes a column a unit column, with its 1 in the row of the same number.
func clearColumn(t [][]*big.Rat, k int) {
	at := t[k][k]
	for c := range t[k] {
		t[k][c] = by(t[k][c], at)
	}
	for i := range t {
		often := t[i][k]
		for c := range t[i] {
			if i != k {
				t[i][c] = minus(t[i][c], times(often, t[k][c]))
			}
		}
	}
}

// second is what a list comes to in a standard, reckoned from the standard's own columns: there is no board, there are no artificial columns, and no row is turned or goes.
type second struct {
	s       api.Standard
	columns []int        // those of the list that are columns, rising, each of them once
	factors [][]*big.Rat // of each column of the standard: with which factors it is a sum of those columns
	units   [][]*big.Rat // of each row's unit column likewise; nil, if it is no such sum
	point   []*big.Rat   // of each of those columns its number
}

// secondOf looks at a list; why tells what makes it no state, or nothing, if it is one.
func secondOf(s api.Standard, list []int) (q second, why string) {
	q.s = s
	var columns, targets []column
	for j := range s.C {
		if slices.Contains(list, j) {
			q.columns = append(q.columns, j)
			columns = append(columns, columnOf(s, j))
		}
		targets = append(targets, columnOf(s, j))
	}
	targets = append(targets, rightsOf(s))
	for i := range s.B {
		targets = append(targets, unit(len(s.B), i))
	}
	all, independent := express(len(s.B), columns, targets)
	if !isMet(s) {
		return q, "nothing meets it"
	}
	if !independent {
		return q, "too many columns"
	}
	n := len(s.C)
	q.factors, q.point, q.units = all[:n], all[n], all[n+1:]
	if slices.ContainsFunc(q.factors, func(l []*big.Rat) bool { return l == nil }) {
		return q, "too few columns"
	}
	if slices.ContainsFunc(q.point, func(a *big.Rat) bool { return a.Sign() < 0 }) {
		return q, "a right side"
	}
	for j := range n {
		if q.reduced(j).Sign() < 0 {
			return q, "a cost"
		}
	}
	return q, ""
}

// isMet tells whether a standard's equations can be met, whatever the signs: whether its right sides are a sum of its columns.
func isMet(s api.Standard) bool {
	var chosen []column
	for j := range s.C {
		more := append(slices.Clone(chosen), columnOf(s, j))
		if _, independent := express(len(s.B), more, nil); independent {
			chosen = more
		}
	}
	factors, _ := express(len(s.B), chosen, []column{rightsOf(s)})
	return factors[0] != nil
}

// costs are those of the list's columns.
func (q second) costs() (l []*big.Rat) {
	for _, j := range q.columns {
		l = append(l, toBig(q.s.C[j]))
	}
	return l
}

// reduced is what a column costs less what the columns cost of which it is a sum.
func (q second) reduced(j int) *big.Rat {
	return minus(toBig(q.s.C[j]), dot(q.costs(), q.factors[j]))
}

// reach is from where to where a number may be changed; nil is an end that isn't there.
type reach struct{ lo, hi *big.Rat }

// keep narrows a reach, so that a number and a change so many times together aren't below nought.
func (r *reach) keep(number, often *big.Rat) {
	switch often.Sign() {
	case 1:
		if end := turn(by(number, often)); r.lo == nil || end.Cmp(r.lo) > 0 {
			r.lo = end
		}
	case -1:
		if end := turn(by(number, often)); r.hi == nil || end.Cmp(r.hi) < 0 {
			r.hi = end
		}
	}
}

// from moves a reach.
func (r reach) from(a *big.Rat) reach {
	if r.lo != nil {
		r.lo = plus(a, r.lo)
	}
	if r.hi != nil {
		r.hi = plus(a, r.hi)
	}
	return r
}

func (r reach) has(a *big.Rat) bool {
	return (r.lo == nil || a.Cmp(r.lo) >= 0) && (r.hi == nil || a.Cmp(r.hi) <= 0)
}

func (r reach) told() string {
	end := func(a *big.Rat) string {
		if a == nil {
			return "none"
		}
		return a.RatString()
	}
	return end(r.lo) + ", " + end(r.hi)
}

// kind tells which ends are there.
func (r reach) kind() string {
	switch {
	case r.lo == nil && r.hi == nil:
		return "no end"
	case r.hi == nil:
		return "lo"
	case r.lo == nil:
		return "hi"
	case r.lo.Cmp(r.hi) == 0:
		return "ends that touch"
	}
	return "both ends"
}

// cost is between which costs of a column no reduced cost is below nought.
func (q second) cost(j int) reach {
	var r reach
	place := slices.Index(q.columns, j)
	for k := range q.s.C {
		switch {
		case place < 0 && k == j:
			r.keep(q.reduced(k), whole(1))
		case place >= 0 && k != j:
			r.keep(q.reduced(k), turn(q.factors[k][place]))
		}
	}
	return r.from(toBig(q.s.C[j]))
}

// right is between which right sides of a row there is a point of the list's columns alone, and none of its numbers is below nought.
func (q second) right(i int) reach {
	r := reach{whole(0), whole(0)}
	if q.units[i] != nil {
		r = reach{}
		for k, a := range q.point {
			r.keep(a, q.units[i][k])
		}
	}
	return r.from(toBig(q.s.B[i]))
}

// at is what the point costs at another right side.
func (q second) at(i int, right *big.Rat) *big.Rat {
	sum := plus(toBig(q.s.K), dot(q.costs(), q.point))
	if q.units[i] == nil {
		return sum
	}
	return plus(sum, times(minus(right, toBig(q.s.B[i])), dot(q.costs(), q.units[i])))
}

// least is the least value of a standard of which it is known that it has one, or no point: all choices of columns are gone through; nil, if it has no point.
func least(s api.Standard) (found *big.Rat) {
	for choice := range 1 << len(s.C) {
		var columns []column
		var costs []*big.Rat
		for j := range s.C {
			if choice>>j&1 == 1 {
				columns, costs = append(columns, columnOf(s, j)), append(costs, toBig(s.C[j]))
			}
		}
		factors, independent := express(len(s.B), columns, []column{rightsOf(s)})
		if !independent || factors[0] == nil || slices.ContainsFunc(factors[0], func(a *big.Rat) bool { return a.Sign() < 0 }) {
			continue
		}
		if sum := plus(toBig(s.K), dot(costs, factors[0])); found == nil || sum.Cmp(found) < 0 {
			found = sum
		}
	}
	return found
}

// stand is what stands for a bound in a dual: of a row or of a variable, turned or not.
type stand struct {
	ofRow  bool
	place  int
	turned bool
	at     *big.Rat
}

// standsOf are those of two bounds.
func standsOf(ofRow bool, place int, max bool, lo, hi api.Bound) (l []stand) {
	for _, turned := range []bool{false, true} {
		b := lo
		if max != turned {
			b = hi
		}
		if b.Has {
			l = append(l, stand{ofRow, place, turned, toBig(b.At)})
		}
	}
	return l
}

func (x stand) name() string {
	return map[bool]string{true: "r", false: "v"}[x.ofRow] + map[bool]string{true: "m", false: "p"}[x.turned] + strconv.Itoa(x.place)
}

// sense turns a number, if this is turned.
func (x stand) sense(a *big.Rat) *big.Rat {
	if x.turned {
		return turn(a)
	}
	return a
}

// secondDual is Dual by the promise's words: all its coefficients are looked for, row by row.
func secondDual(p api.Problem) (d api.Problem) {
	var stands []stand
	for i, row := range p.Rows {
		stands = append(stands, standsOf(true, i, p.Max, row.Lo, row.Hi)...)
	}
	for j, v := range p.Vars {
		stands = append(stands, standsOf(false, j, p.Max, v.Lo, v.Hi)...)
	}
	d.Max, d.Const = !p.Max, fromBig(toBig(p.Const))
	for _, x := range stands {
		d.Vars = append(d.Vars, api.Var{Name: x.name(), Obj: fromBig(x.sense(x.at)), Lo: has("0")})
	}
	for j, v := range p.Vars {
		row := api.Row{Name: "x" + strconv.Itoa(j), Lo: api.Bound{Has: true, At: fromBig(toBig(v.Obj))}, Hi: api.Bound{Has: true, At: fromBig(toBig(v.Obj))}}
		for k, x := range stands {
			coef := whole(0)
			if x.ofRow {
				coef = coefsOf(p, p.Rows[x.place])[j]
			} else if x.place == j {
				coef = whole(1)
			}
			if coef.Sign() != 0 {
				row.Terms = append(row.Terms, api.Term{Var: k, Coef: fromBig(x.sense(coef))})
			}
		}
		d.Rows = append(d.Rows, row)
	}
	return d
}

// coefsOf are a row's coefficients of all variables, each that of all its terms together.
func coefsOf(p api.Problem, row api.Row) (l []*big.Rat) {
	for j := range p.Vars {
		sum := whole(0)
		for _, term := range row.Terms {
			if term.Var == j {
				sum = plus(sum, toBig(term.Coef))
			}
		}
		l = append(l, sum)
	}
	return l
}

package shape_test

import (
	"math/big"
	"slices"
	"strconv"

	"vertex/api"
)

// sums are columns, called by names, with their coefficients; right is what they come to together.
type sums struct {
	names []string // in the order in which they came
	of    map[string]*big.Rat
	right *big.Rat
}

func newSums(right *big.Rat) *sums { return &sums{of: map[string]*big.Rat{}, right: right} }

func (s *sums) put(name string, coef *big.Rat) *sums {
	if s.of[name] == nil {
		s.names, s.of[name] = append(s.names, name), new(big.Rat)
	}
	s.of[name].Add(s.of[name], coef)
	return s
}

func whole(n int64) *big.Rat { return big.NewRat(n, 1) }

func minus(a, b *big.Rat) *big.Rat { return new(big.Rat).Sub(a, b) }

func times(a, b *big.Rat) *big.Rat { return new(big.Rat).Mul(a, b) }

// variableOf tells a variable by its columns, and by its constant (as right), by the chapter's table.
func variableOf(v api.Var, j int) *sums {
	name := strconv.Itoa(j)
	if v.Lo.Has {
		return newSums(toBig(v.Lo.At)).put("u"+name, whole(1))
	}
	if v.Hi.Has {
		return newSums(toBig(v.Hi.At)).put("u"+name, whole(-1))
	}
	return newSums(whole(0)).put("plus"+name, whole(1)).put("minus"+name, whole(-1))
}

// rowOf tells a row of the problem by columns: each of its terms in the order in which they stand.
func rowOf(p api.Problem, row api.Row, bound api.Bound) *sums {
	e := newSums(toBig(bound.At))
	for _, x := range row.Terms {
		if x.Var < 0 || x.Var >= len(p.Vars) {
			continue
		}
		v := variableOf(p.Vars[x.Var], x.Var)
		e.right.Sub(e.right, times(toBig(x.Coef), v.right))
		for _, name := range v.names {
			e.put(name, times(toBig(x.Coef), v.of[name]))
		}
	}
	return e
}

// width is what two bounds are apart.
func width(lo, hi api.Bound) *big.Rat { return minus(toBig(hi.At), toBig(lo.At)) }

// equationsOf are the rows of the standard by P10.3's words, and of each row of the problem the place of the first one that it brought, or -1.
func equationsOf(p api.Problem) (all []*sums, first []int) {
	for i, row := range p.Rows {
		s, t := "s"+strconv.Itoa(i), "t"+strconv.Itoa(i)
		first = append(first, len(all))
		switch {
		case row.Lo.Has && row.Hi.Has && toBig(row.Lo.At).Cmp(toBig(row.Hi.At)) == 0:
			all = append(all, rowOf(p, row, row.Lo))
		case row.Lo.Has && row.Hi.Has:
			all = append(all, rowOf(p, row, row.Lo).put(s, whole(-1)), newSums(width(row.Lo, row.Hi)).put(s, whole(1)).put(t, whole(1)))
		case row.Lo.Has:
			all = append(all, rowOf(p, row, row.Lo).put(s, whole(-1)))
		case row.Hi.Has:
			all = append(all, rowOf(p, row, row.Hi).put(s, whole(1)))
		default:
			first[i] = -1
		}
	}
	for j, v := range p.Vars {
		if v.Lo.Has && v.Hi.Has {
			all = append(all, newSums(width(v.Lo, v.Hi)).put("u"+strconv.Itoa(j), whole(1)).put("w"+strconv.Itoa(j), whole(1)))
		}
	}
	return all, first
}

// columnsOf are the columns' names in their order, by P10.2's words.
func columnsOf(p api.Problem, equations []*sums) (names []string) {
	for j, v := range p.Vars {
		names = append(names, variableOf(v, j).names...)
	}
	for _, e := range equations {
		for _, name := range e.names {
			if !slices.Contains(names, name) {
				names = append(names, name)
			}
		}
	}
	return names
}

// costsOf are the columns' costs, and K as right, by P10.4's words.
func costsOf(p api.Problem) *sums {
	sign := whole(1)
	if p.Max {
		sign = whole(-1)
	}
	c := newSums(times(sign, toBig(p.Const)))
	for j, v := range p.Vars {
		obj, told := times(sign, toBig(v.Obj)), variableOf(v, j)
		c.right.Add(c.right, times(obj, told.right))
		for _, name := range told.names {
			c.put(name, times(obj, told.of[name]))
		}
	}
	return c
}

// lineOf lays numbers out in the order of the columns.
func lineOf(s *sums, names []string) (l []api.Rat) {
	for _, name := range names {
		n := s.of[name]
		if n == nil {
			n = whole(0)
		}
		l = append(l, fromBig(n))
	}
	return l
}

// standardOf is what Standard is to answer.
func standardOf(p api.Problem) (s api.Standard) {
	equations, _ := equationsOf(p)
	names := columnsOf(p, equations)
	for _, e := range equations {
		s.A, s.B = append(s.A, lineOf(e, names)), append(s.B, fromBig(e.right))
	}
	costs := costsOf(p)
	s.C, s.K = lineOf(costs, names), fromBig(costs.right)
	return s
}

// columnsOfVariable is what Columns is to answer.
func columnsOfVariable(p api.Problem, j int) (plus, minus int) {
	if j < 0 || j >= len(p.Vars) {
		return -1, -1
	}
	names := columnsOf(p, nil)
	told := variableOf(p.Vars[j], j).names
	plus, minus = slices.Index(names, told[0]), -1
	if len(told) > 1 {
		minus = slices.Index(names, told[1])
	}
	return plus, minus
}

// numberIn is a number of a list, 0 where it is missing.
func numberIn(l []api.Rat, i int) *big.Rat {
	if 0 <= i && i < len(l) {
		return toBig(l[i])
	}
	return whole(0)
}

// pointOf and rayOf are what Point and Ray are to answer.
func pointOf(p api.Problem, y []api.Rat) (x []api.Rat) {
	for j, a := range rayOf(p, y) {
		x = append(x, fromBig(new(big.Rat).Add(toBig(a), variableOf(p.Vars[j], j).right)))
	}
	return x
}

func rayOf(p api.Problem, z []api.Rat) (x []api.Rat) {
	names := columnsOf(p, nil)
	for j, v := range p.Vars {
		sum, told := whole(0), variableOf(v, j)
		for _, name := range told.names {
			sum.Add(sum, times(told.of[name], numberIn(z, slices.Index(names, name))))
		}
		x = append(x, fromBig(sum))
	}
	return x
}

// multOf is what Mult is to answer.
func multOf(p api.Problem, m []api.Rat) (l []api.Rat) {
	_, first := equationsOf(p)
	for _, i := range first {
		l = append(l, fromBig(numberIn(m, i)))
	}
	return l
}

package branch_test

import (
	"math/big"
	"math/rand"
	"slices"

	"vertex/api"
	"vertex/back"
)

// chance makes problems and searches, the same ones at each run.
type chance struct{ *rand.Rand }

func chances(seed int64) chance { return chance{rand.New(rand.NewSource(seed))} }

// often tells true once in so many times.
func (r chance) often(n int) bool { return r.Intn(n) == 0 }

// small makes a number, most of them small and whole.
func (r chance) small() *big.Rat {
	return big.NewRat(int64(r.Intn(9)-4), int64(1+r.Intn(7)/4))
}

// number makes a number in any form.
func (r chance) number() api.Rat { return r.anyForm(r.small()) }

func (r chance) numbers(n int) (l []api.Rat) {
	for range n {
		l = append(l, r.number())
	}
	return l
}

// anyForm tells a number in one of its forms.
func (r chance) anyForm(n *big.Rat) api.Rat {
	a := fromBig(n)
	switch r.Intn(6) {
	case 0:
		return odd(n.RatString())
	case 1:
		a.Num.Mag, a.Den = append(a.Num.Mag, 0), append(a.Den, 0, 0)
	case 2:
		if n.Sign() == 0 {
			return noughts()[r.Intn(len(noughts()))]
		}
	}
	return a
}

func (r chance) anyForms(l []api.Rat) (again []api.Rat) {
	for _, a := range l {
		again = append(again, r.anyForm(toBig(a)))
	}
	return again
}

// anyWhole tells a whole number in one of its forms.
func (r chance) anyWhole(n *big.Int) api.Int {
	a := fromBigInt(n)
	if r.often(4) {
		a.Mag = append(a.Mag, 0, 0)
		a.Neg = a.Neg || n.Sign() == 0
	}
	return a
}

// bounds makes bounds of all kinds, between which a number lies; numbers stand in absent ones too.
func (r chance) bounds(at *big.Rat) both {
	off := func(sign int64) api.Rat {
		return r.anyForm(plus(at, big.NewRat(sign*int64(r.Intn(5)), int64(1+r.Intn(3)))))
	}
	b := both{api.Bound{Has: r.Intn(2) == 0, At: off(-1)}, api.Bound{Has: r.Intn(2) == 0, At: off(1)}}
	for _, bound := range []*api.Bound{&b.lo, &b.hi} {
		if !bound.Has {
			bound.At = r.number()
		}
	}
	return b
}

// variable makes a variable: most must be whole, with both bounds, few whole numbers between them, or none, and now and then crossed.
func (r chance) variable() api.Var {
	v := api.Var{Obj: r.number(), Whole: !r.often(3)}
	if !v.Whole {
		b := r.bounds(r.small())
		v.Lo, v.Hi = b.lo, b.hi
		return v
	}
	lo := r.small()
	hi := plus(lo, big.NewRat(int64(r.Intn(8)), int64(1+r.Intn(3))))
	if r.often(40) {
		lo, hi = hi, lo
	}
	v.Lo, v.Hi = api.Bound{Has: true, At: r.anyForm(lo)}, api.Bound{Has: true, At: r.anyForm(hi)}
	return v
}

// row makes a row: several terms of one variable, terms of variables that aren't there, and bounds by what it comes to at a point, or by chance; many are equations.
func (r chance) row(p api.Problem, x []api.Rat) api.Row {
	var row api.Row
	for range 1 + r.Intn(len(p.Vars)+2) {
		row.Terms = append(row.Terms, api.Term{Var: r.Intn(len(p.Vars)+2) - 1, Coef: r.number()})
	}
	value := new(big.Rat)
	for j := range p.Vars {
		value = plus(value, times(coefOf(row, j), toBig(x[j])))
	}
	if r.often(8) {
		value = r.small()
	}
	b := r.bounds(value)
	if r.often(4) {
		here := api.Bound{Has: true, At: r.anyForm(value)}
		b = both{here, here}
	}
	if r.often(30) {
		b.lo, b.hi = b.hi, b.lo
	}
	row.Lo, row.Hi = b.lo, b.hi
	return row
}

// bag makes a problem whose best points lie between whole ones: what is worth the most must share room.
func (r chance) bag(variables, rows int) api.Problem {
	p := api.Problem{Max: true, Const: r.number()}
	some := func() *big.Rat { return big.NewRat(int64(1+r.Intn(9)), int64(1+r.Intn(7)/6)) }
	for range variables {
		lo := big.NewRat(int64(r.Intn(5)-3), int64(1+r.Intn(7)/6))
		hi := plus(lo, big.NewRat(int64(1+r.Intn(6)), int64(1+r.Intn(3))))
		p.Vars = append(p.Vars, api.Var{Obj: r.anyForm(some()), Lo: api.Bound{Has: true, At: r.anyForm(lo)}, Hi: api.Bound{Has: true, At: r.anyForm(hi)}, Whole: !r.often(6)})
	}
	for range rows {
		row := api.Row{Hi: api.Bound{Has: true}}
		room := new(big.Rat)
		for j, v := range p.Vars {
			coef := some()
			row.Terms = append(row.Terms, api.Term{Var: j, Coef: r.anyForm(coef)})
			middle := times(plus(toBig(v.Lo.At), toBig(v.Hi.At)), big.NewRat(1, 2))
			room = plus(room, times(coef, middle))
		}
		row.Hi.At = r.anyForm(room)
		p.Rows = append(p.Rows, row)
	}
	if r.Intn(2) == 0 {
		p.Max = false
		for j := range p.Vars {
			p.Vars[j].Obj = r.anyForm(turn(toBig(p.Vars[j].Obj)))
		}
	}
	return p
}

// problem makes a problem that isn't open, of which nobody knows what it comes to.
func (r chance) problem(variables, rows int) api.Problem {
	if r.often(3) {
		p := r.bag(variables, rows)
		if r.often(5) {
			p.Vars = append(p.Vars, r.variable())
		}
		return p
	}
	p := api.Problem{Max: r.Intn(2) == 0, Const: r.number()}
	for range variables {
		p.Vars = append(p.Vars, r.variable())
	}
	x := r.inside(p)
	for range rows {
		p.Rows = append(p.Rows, r.row(p, x))
	}
	if variables > 0 && r.often(5) {
		// Nothing whole comes of an odd number by two even ones: so there is a tree without whole points.
		p.Rows = append(p.Rows, r.evenRow(p))
	}
	return p
}

// inside makes a number for each variable, mostly between its bounds.
func (r chance) inside(p api.Problem) (x []api.Rat) {
	for _, v := range p.Vars {
		number := r.small()
		if v.Lo.Has && v.Hi.Has {
			lo, hi := toBig(v.Lo.At), toBig(v.Hi.At)
			number = plus(lo, times(minus(hi, lo), big.NewRat(int64(r.Intn(5)), 4)))
		}
		x = append(x, fromBig(number))
	}
	return x
}

// evenRow makes an equation of even coefficients of the whole variables, and of an odd number.
func (r chance) evenRow(p api.Problem) api.Row {
	var row api.Row
	for j, v := range p.Vars {
		if v.Whole {
			row.Terms = append(row.Terms, api.Term{Var: j, Coef: r.anyForm(big.NewRat(int64(2*r.Intn(5)-4), 1))})
		}
	}
	end := api.Bound{Has: true, At: r.anyForm(big.NewRat(int64(2*r.Intn(4)-3), 1))}
	row.Lo, row.Hi = end, end
	return row
}

// size makes how many variables and rows a problem has.
func (r chance) size() (variables, rows int) { return r.Intn(5), r.Intn(4) }

// grown makes a tree, other than Run's, that proves of a problem that no whole point is better than a value (nil: that there is none): split at whole variables and numbers by chance, now and then without need or use. The leaves' certificates are those of the problem of the node, with other numbers where any will do.
func (r chance) grown(p api.Problem, value *big.Rat) (tree []api.Node) {
	var visit func(q api.Problem, depth int) int
	visit = func(q api.Problem, depth int) int {
		place := len(tree)
		c := back.Solve(q)
		if value == nil && c.Verdict != api.Infeasible {
			c = back.Solve(aimless(q))
		}
		isProof := c.Verdict == api.Infeasible || c.Verdict == api.Optimal && value != nil && !isBetter(q, toBig(c.Value), value)
		n, canSplit := r.split(q)
		if !canSplit && c.Verdict == api.Optimal && brokenAt(q, c.X) >= 0 {
			j := brokenAt(q, c.X)
			n, canSplit = api.Node{Split: true, Var: j, At: r.anyWhole(floorOf(toBig(c.X[j])))}, true
		}
		if !canSplit || isProof && !(r.often(5) && depth < 5) {
			tree = append(tree, api.Node{Cert: r.retold(q, c)})
			return place
		}
		tree = append(tree, api.Node{})
		n.Left = visit(partOf(q, n, false), depth+1)
		n.Right = visit(partOf(q, n, true), depth+1)
		n.Cert = r.junk()
		tree[place] = n
		return place
	}
	visit(p, 0)
	return tree
}

// split makes a split of a problem at a whole variable by chance, mostly between its bounds; false, if there is none that has two numbers.
func (r chance) split(q api.Problem) (api.Node, bool) {
	for _, j := range r.Perm(len(q.Vars)) {
		v := q.Vars[j]
		if !v.Whole {
			continue
		}
		first, last := new(big.Int).Neg(floorOf(turn(toBig(v.Lo.At)))), floorOf(toBig(v.Hi.At))
		width := new(big.Int).Sub(last, first)
		if width.Sign() <= 0 && !r.often(3) {
			continue
		}
		at := new(big.Int).Add(first, big.NewInt(int64(r.Intn(3)-1)))
		if width.Sign() > 0 {
			at = new(big.Int).Add(first, big.NewInt(r.Int63n(width.Int64())))
		}
		return api.Node{Split: true, Var: j, At: r.anyWhole(at)}, true
	}
	return api.Node{}, false
}

// retold tells a certificate in another form; where the problem is crossed, any multipliers prove that.
func (r chance) retold(q api.Problem, c api.Cert) api.Cert {
	c.Value, c.X, c.Y, c.Ray = r.anyForm(toBig(c.Value)), r.anyForms(c.X), r.anyForms(c.Y), r.anyForms(c.Ray)
	isCrossed := slices.ContainsFunc(boundsOf(q), func(b both) bool {
		return b.lo.Has && b.hi.Has && toBig(b.lo.At).Cmp(toBig(b.hi.At)) > 0
	})
	if isCrossed && r.Intn(2) == 0 {
		c.Y = r.numbers(len(q.Rows))
	}
	return c
}

// junk makes a certificate of nothing.
func (r chance) junk() api.Cert {
	return api.Cert{Verdict: r.Intn(5), Value: r.number(), X: r.numbers(r.Intn(3)), Y: r.numbers(r.Intn(3)), Ray: r.numbers(r.Intn(3))}
}

// strewn puts a tree's nodes at other places, parts still above what they are parts of, with nodes between them that aren't reached and may be anything.
func (r chance) strewn(tree []api.Node) []api.Node {
	if len(tree) == 0 {
		return nil
	}
	to, ready := map[int]int{}, []int{0}
	var order []int // of each new place the old one, or -1
	for len(ready) > 0 {
		if len(order) > 0 && r.often(4) {
			order = append(order, -1)
			continue
		}
		k := r.Intn(len(ready))
		old := ready[k]
		ready = slices.Delete(ready, k, k+1)
		to[old] = len(order)
		order = append(order, old)
		if tree[old].Split {
			ready = append(ready, tree[old].Left, tree[old].Right)
		}
	}
	strewn := make([]api.Node, len(order))
	for place, old := range order {
		if old < 0 {
			strewn[place] = r.anyNode(len(order))
			continue
		}
		n := tree[old]
		if n.Split {
			n.Left, n.Right = to[n.Left], to[n.Right]
		} else if r.often(2) {
			other := r.anyNode(len(order))
			n.Var, n.At, n.Left, n.Right = other.Var, other.At, other.Left, other.Right
		}
		strewn[place] = n
	}
	return strewn
}

// anyNode makes a node that stands for nothing.
func (r chance) anyNode(length int) api.Node {
	return api.Node{Split: r.Intn(2) == 0, Var: r.Intn(7) - 2, At: r.anyWhole(big.NewInt(int64(r.Intn(9) - 4))), Left: r.Intn(length+4) - 2, Right: r.Intn(length+4) - 2, Cert: r.junk()}
}

// search makes a search of a problem: Run's, or one with a tree of its own for what is true, or for what isn't.
func (r chance) search(p api.Problem) api.Search {
	s, _ := secondRun(p, 1000)
	if r.often(3) {
		return s
	}
	switch s.Verdict {
	case api.Optimal:
		s.Tree = r.strewn(r.grown(p, toBig(s.Value)))
		s.Value = r.anyForm(toBig(s.Value))
	case api.Infeasible:
		s.Tree = r.strewn(r.grown(p, nil))
		s.X, s.Ray, s.Value = r.numbers(r.Intn(4)), r.numbers(r.Intn(4)), r.number()
	case api.Unbounded:
		s.Tree = []api.Node{r.anyNode(3)}
		s.Value = r.number()
		s.X = r.further(s)
	}
	s.Nodes = r.Intn(9) - 3
	if r.often(8) {
		s = r.claimed(p)
	}
	return s
}

// further gives another whole point, on along the ray.
func (r chance) further(s api.Search) (x []api.Rat) {
	far := big.NewRat(int64(r.Intn(7)), int64(1+r.Intn(3)))
	for j := range s.X {
		x = append(x, r.anyForm(plus(toBig(s.X[j]), times(far, toBig(s.Ray[j])))))
	}
	return x
}

// claimed gives a search of a verdict and of a point by chance, for which a tree was grown as if it were true.
func (r chance) claimed(p api.Problem) api.Search {
	x := r.wholePoint(p)
	value := valueAt(p, x)
	if r.often(3) {
		return api.Search{Verdict: api.Infeasible, Tree: r.strewn(r.grown(p, nil))}
	}
	return api.Search{Verdict: api.Optimal, X: x, Value: r.anyForm(value), Tree: r.strewn(r.grown(p, value))}
}

// wholePoint makes a number for each variable, whole where it must be, mostly between its bounds.
func (r chance) wholePoint(p api.Problem) (x []api.Rat) {
	for j, a := range r.inside(p) {
		n := toBig(a)
		if p.Vars[j].Whole {
			n = new(big.Rat).SetInt(floorOf(n))
		}
		x = append(x, r.anyForm(n))
	}
	return x
}

// nudge changes one thing of a search.
func (r chance) nudge(p api.Problem, s api.Search) api.Search {
	s.Tree = slices.Clone(s.Tree)
	if len(s.Tree) > 0 && r.Intn(3) > 0 {
		if r.often(8) {
			s.Tree = s.Tree[:r.Intn(len(s.Tree))]
			return s
		}
		n := &s.Tree[r.Intn(len(s.Tree))]
		r.nudgeNode(n, len(s.Tree))
		return s
	}
	switch r.Intn(6) {
	case 0:
		s.Verdict = r.Intn(6) - 1
	case 1:
		s.Value = r.number()
	case 2:
		s.X = r.nudged(s.X)
	case 3:
		s.Ray = r.nudged(s.Ray)
	case 4:
		s.X = r.wholePoint(p)
		s.Value = r.anyForm(valueAt(p, s.X))
	case 5:
		// The best point, if nothing had to be whole.
		if c := back.Solve(p); c.Verdict != api.Infeasible {
			s.X = c.X
			s.Value = r.anyForm(valueAt(p, s.X))
		}
	}
	return s
}

// nudged changes one thing of a list.
func (r chance) nudged(l []api.Rat) []api.Rat {
	l = slices.Clone(l)
	switch {
	case r.often(4):
		return append(l, r.number())
	case len(l) == 0:
		return l
	case r.often(3):
		return l[1:]
	}
	l[r.Intn(len(l))] = r.number()
	return l
}

// nudgeNode changes one thing of a node.
func (r chance) nudgeNode(n *api.Node, length int) {
	switch r.Intn(10) {
	case 0:
		n.Split = !n.Split
	case 1:
		n.Var = r.Intn(7) - 2
	case 2:
		n.At = r.anyWhole(new(big.Int).Add(toBigInt(n.At), big.NewInt(int64(r.Intn(5)-2))))
	case 3:
		n.Left = r.Intn(length+2) - 1
	case 4:
		n.Right = r.Intn(length+2) - 1
	case 5:
		n.Cert.Verdict = r.Intn(5)
	case 6:
		n.Cert.Value = r.number()
	case 7:
		n.Cert.X = r.nudged(n.Cert.X)
	case 8:
		n.Cert.Y = r.nudged(n.Cert.Y)
	case 9:
		n.Left, n.Right = n.Right, n.Left
	}
}

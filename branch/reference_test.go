package branch_test

import (
	"math/big"
	"slices"

	"vertex/api"
	"vertex/back"
	"vertex/check"
)

// coefOf is a variable's coefficient in a row: all its terms together.
func coefOf(row api.Row, variable int) *big.Rat {
	sum := new(big.Rat)
	for _, term := range row.Terms {
		if term.Var == variable {
			sum = plus(sum, toBig(term.Coef))
		}
	}
	return sum
}

// valuesOf are what all variables, and then all rows, come to at a point, or along a ray.
func valuesOf(p api.Problem, x []api.Rat) (l []*big.Rat) {
	for j := range p.Vars {
		l = append(l, toBig(x[j]))
	}
	for _, row := range p.Rows {
		sum := new(big.Rat)
		for j := range p.Vars {
			sum = plus(sum, times(coefOf(row, j), toBig(x[j])))
		}
		l = append(l, sum)
	}
	return l
}

// both are the bounds of a row or of a variable: the two are alike in having them.
type both struct{ lo, hi api.Bound }

func (b both) isKept(n *big.Rat) bool {
	return !(b.lo.Has && n.Cmp(toBig(b.lo.At)) < 0) && !(b.hi.Has && n.Cmp(toBig(b.hi.At)) > 0)
}

// boundsOf are those of all variables, and then of all rows.
func boundsOf(p api.Problem) (l []both) {
	for _, v := range p.Vars {
		l = append(l, both{v.Lo, v.Hi})
	}
	for _, row := range p.Rows {
		l = append(l, both{row.Lo, row.Hi})
	}
	return l
}

// objectiveAt is what the objective comes to at a point, or along a ray, without Const.
func objectiveAt(p api.Problem, x []api.Rat) *big.Rat {
	sum := new(big.Rat)
	for j, v := range p.Vars {
		sum = plus(sum, times(toBig(v.Obj), toBig(x[j])))
	}
	return sum
}

// valueAt is what the objective comes to at a point.
func valueAt(p api.Problem, x []api.Rat) *big.Rat { return plus(toBig(p.Const), objectiveAt(p, x)) }

// isPoint tells whether a list with a number for each variable holds.
func isPoint(p api.Problem, x []api.Rat) bool {
	values := valuesOf(p, x)
	for k, b := range boundsOf(p) {
		if !b.isKept(values[k]) {
			return false
		}
	}
	return true
}

// brokenAt is the first variable that must be whole and isn't, at a point; -1: none.
func brokenAt(p api.Problem, x []api.Rat) int {
	for j, v := range p.Vars {
		if v.Whole && !toBig(x[j]).IsInt() {
			return j
		}
	}
	return -1
}

// isBetter tells whether a value is better than another one.
func isBetter(p api.Problem, a, than *big.Rat) bool {
	if p.Max {
		return a.Cmp(than) > 0
	}
	return a.Cmp(than) < 0
}

// partOf is a problem with the bounds of one of the parts of a split node.
func partOf(p api.Problem, n api.Node, isRight bool) api.Problem {
	p.Vars = slices.Clone(p.Vars)
	v := &p.Vars[n.Var]
	at := new(big.Rat).SetInt(toBigInt(n.At))
	switch {
	case !isRight && !(both{hi: v.Hi}).isKept(at):
		// Hi is below At: it stays.
	case !isRight:
		v.Hi = api.Bound{Has: true, At: fromBig(at)}
	default:
		at = plus(at, big.NewRat(1, 1))
		if (both{lo: v.Lo}).isKept(at) {
			v.Lo = api.Bound{Has: true, At: fromBig(at)}
		}
	}
	return p
}

// isOpenProblem tells whether a whole variable lacks a bound.
func isOpenProblem(p api.Problem) bool {
	return slices.ContainsFunc(p.Vars, func(v api.Var) bool { return v.Whole && (!v.Lo.Has || !v.Hi.Has) })
}

// aimless is a problem with Const and all Objs 0.
func aimless(p api.Problem) api.Problem {
	p.Const, p.Vars = api.Rat{}, slices.Clone(p.Vars)
	for j := range p.Vars {
		p.Vars[j].Obj = api.Rat{}
	}
	return p
}

// second is a search, told a second time by the promises' words: each node calls itself for its parts, with a problem of its own.
type second struct {
	most      int
	anyPoint  bool // the first whole point ends the search
	tree      []api.Node
	best      *api.Cert
	isStopped bool
}

func (s *second) isOver() bool { return s.isStopped || s.anyPoint && s.best != nil }

// visit makes a node, and all that comes of it; it tells the node's place.
func (s *second) visit(q api.Problem) int {
	if len(s.tree) == s.most {
		s.isStopped = true
		return 0
	}
	c, place := back.Solve(q), len(s.tree)
	s.tree = append(s.tree, api.Node{})
	if c.Verdict == api.Infeasible || s.best != nil && !isBetter(q, toBig(c.Value), toBig(s.best.Value)) {
		s.tree[place].Cert = c
		return place
	}
	j := brokenAt(q, c.X)
	if j < 0 {
		s.tree[place].Cert, s.best = c, &c
		return place
	}
	n := api.Node{Split: true, Var: j, At: fromBigInt(floorOf(toBig(c.X[j])))}
	n.Left = s.visit(partOf(q, n, false))
	if !s.isOver() {
		n.Right = s.visit(partOf(q, n, true))
	}
	s.tree[place] = n
	return place
}

// secondRun is what Run is to answer, by P18.1 to P18.3's words.
func secondRun(p api.Problem, most int) (api.Search, error) {
	if most < 1 {
		return api.Search{}, api.ErrArg
	}
	if isOpenProblem(p) {
		return api.Search{}, api.ErrOpen
	}
	first := back.Solve(p)
	s, q := second{most: most}, p
	if first.Verdict == api.Unbounded {
		s.anyPoint, q = true, aimless(p)
	}
	s.visit(q)
	a := api.Search{Nodes: len(s.tree)}
	if s.best != nil {
		a.X = s.best.X
	}
	switch {
	case s.isStopped:
		a.Verdict = api.Stopped
	case s.best == nil:
		a.Verdict = api.Infeasible
	case s.anyPoint:
		a.Verdict, a.Ray = api.Unbounded, first.Ray
	default:
		a.Verdict = api.Optimal
	}
	if s.best != nil && !s.anyPoint {
		a.Value = s.best.Value
	}
	if a.Verdict == api.Optimal || a.Verdict == api.Infeasible {
		a.Tree = s.tree
	}
	return a, nil
}

// secondTold is what Run is to answer, written out.
func secondTold(p api.Problem, most int) string {
	s, err := secondRun(p, most)
	if err != nil {
		return errorOf(err)
	}
	return told(s)
}

// leafOf is a leaf with the problem of its node.
type leafOf struct {
	problem api.Problem
	cert    api.Cert
}

// secondLeaves are the leaves of a tree, in order; nil: it is none.
func secondLeaves(p api.Problem, tree []api.Node) (l []leafOf) {
	reached := map[int]int{}
	var visit func(p api.Problem, place int) bool
	visit = func(p api.Problem, place int) bool {
		if reached[place]++; reached[place] > 1 {
			return false
		}
		n := tree[place]
		if !n.Split {
			l = append(l, leafOf{p, n.Cert})
			return true
		}
		if n.Var < 0 || n.Var >= len(p.Vars) || !p.Vars[n.Var].Whole {
			return false
		}
		for _, to := range []int{n.Left, n.Right} {
			if to <= place || to >= len(tree) {
				return false
			}
		}
		return visit(partOf(p, n, false), n.Left) && visit(partOf(p, n, true), n.Right)
	}
	if len(tree) == 0 || !visit(p, 0) {
		return nil
	}
	return l
}

// secondPoint is P18.5.
func secondPoint(p api.Problem, x []api.Rat) error {
	switch {
	case len(x) != len(p.Vars):
		return api.ErrShape
	case !isPoint(p, x):
		return api.ErrPoint
	case brokenAt(p, x) >= 0:
		return api.ErrWhole
	}
	return nil
}

// secondTree is P18.6.
func secondTree(p api.Problem, s api.Search) error {
	l := secondLeaves(p, s.Tree)
	if l == nil {
		return api.ErrTree
	}
	for _, leaf := range l {
		switch {
		case leaf.cert.Verdict == api.Optimal && s.Verdict == api.Optimal:
		case leaf.cert.Verdict == api.Infeasible:
		default:
			return api.ErrVerdict
		}
		if err := check.Check(leaf.problem, leaf.cert); err != nil {
			return err
		}
		if leaf.cert.Verdict == api.Optimal && isBetter(p, toBig(leaf.cert.Value), toBig(s.Value)) {
			return api.ErrBound
		}
	}
	return nil
}

// secondCheck is what Check is to answer, by P18.4's words.
func secondCheck(p api.Problem, s api.Search) error {
	if isOpenProblem(p) {
		return api.ErrOpen
	}
	if s.Verdict == api.Optimal || s.Verdict == api.Unbounded {
		if err := secondPoint(p, s.X); err != nil {
			return err
		}
	}
	switch s.Verdict {
	case api.Optimal:
		if valueAt(p, s.X).Cmp(toBig(s.Value)) != 0 {
			return api.ErrValue
		}
		return secondTree(p, s)
	case api.Infeasible:
		return secondTree(p, s)
	case api.Unbounded:
		return check.Check(p, api.Cert{Verdict: api.Unbounded, X: s.X, Ray: s.Ray})
	}
	return api.ErrVerdict
}

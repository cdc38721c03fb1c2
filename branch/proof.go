package branch

import (
	"iter"

	"vertex/api"
	"vertex/check"
	"vertex/model"
	"vertex/rat"
)

// checkOptimal tells whether X is a whole point of that value, and nothing in the tree is better: P18.4.
func checkOptimal(p api.Problem, s api.Search) error {
	if err := checkPoint(p, s.X); err != nil {
		return err
	}
	if rat.Cmp(model.Value(p, s.X), s.Value) != 0 {
		return api.ErrValue
	}
	return checkTree(p, s)
}

// checkUnbounded tells whether X is a whole point, and Ray one from there: P18.4.
func checkUnbounded(p api.Problem, s api.Search) error {
	if err := checkPoint(p, s.X); err != nil {
		return err
	}
	return check.Check(p, api.Cert{Verdict: api.Unbounded, X: s.X, Ray: s.Ray})
}

// checkPoint tells whether a list is a whole point: P18.5.
func checkPoint(p api.Problem, x []api.Rat) error {
	switch {
	case len(x) != len(p.Vars):
		return api.ErrShape
	case !model.Holds(p, x):
		return api.ErrPoint
	case !model.Whole(p, x):
		return api.ErrWhole
	}
	return nil
}

// checkTree tells whether the tree is one, and each of its leaves proves what is asked of it: P18.6.
func checkTree(p api.Problem, s api.Search) error {
	if !isTree(p, s.Tree) {
		return api.ErrTree
	}
	for q, c := range leaves(p, s.Tree) {
		if err := checkLeaf(q, c, s); err != nil {
			return err
		}
	}
	return nil
}

// checkLeaf tells whether a leaf's certificate proves that no whole point of its problem counts against the search.
func checkLeaf(q api.Problem, c api.Cert, s api.Search) error {
	if c.Verdict != api.Infeasible && !(s.Verdict == api.Optimal && c.Verdict == api.Optimal) {
		return api.ErrVerdict
	}
	if err := check.Check(q, c); err != nil {
		return err
	}
	if c.Verdict == api.Optimal && isBetter(q, c.Value, s.Value) {
		return api.ErrBound
	}
	return nil
}

// isTree tells whether the nodes that are reached from the root are a tree, split at variables that must be whole.
func isTree(p api.Problem, tree []api.Node) bool {
	if len(tree) == 0 {
		return false
	}
	isReached := make([]bool, len(tree))
	isReached[0] = true
	reach := func(from, to int) bool {
		if to <= from || to >= len(tree) || isReached[to] {
			return false
		}
		isReached[to] = true
		return true
	}
	// Parts stand behind what they are parts of: at its turn each node knows whether it is reached.
	for place, n := range tree {
		if !isReached[place] || !n.Split {
			continue
		}
		if n.Var < 0 || n.Var >= len(p.Vars) || !p.Vars[n.Var].Whole {
			return false
		}
		if !reach(place, n.Left) || !reach(place, n.Right) {
			return false
		}
	}
	return true
}

// leaves gives the leaves of a tree, all of Left ahead of Right: of each the problem of the node, which is good till the next one is given, and the certificate.
func leaves(p api.Problem, tree []api.Node) iter.Seq2[api.Problem, api.Cert] {
	return func(yield func(api.Problem, api.Cert) bool) {
		w, place := begin(p), 0
		for {
			if n := tree[place]; n.Split {
				w.fork(place)
			} else if !yield(w.problem, n.Cert) {
				return
			}
			if !w.goesOn() {
				return
			}
			place = w.follow(tree)
		}
	}
}

// follow goes to the next part, and tells its place in the tree.
func (w *way) follow(tree []api.Node) int {
	to := w.next(tree)
	if to.isRight {
		return tree[to.parent].Right
	}
	return tree[to.parent].Left
}

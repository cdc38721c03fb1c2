package branch

import (
	"slices"

	"vertex/api"
	"vertex/rat"
	"vertex/whole"
)

// way goes through a tree, node by node, all of Left ahead of Right. It changes but one variable's bounds with each step, and knows how to change them back: so it needs no more room for a deep tree than for a flat one, but what it has to change back.
type way struct {
	problem api.Problem // that of the node where it stands; its Vars are the way's own
	passed  []passage   // the splits above that node, the root's first
	ahead   []part      // what is still to be gone to, the next one last
}

// passage is a split that the way has passed: which variable's bounds it changed, and what that was ahead of it.
type passage struct {
	place int
	was   api.Var
}

// part is one of the two parts of a split node.
type part struct {
	parent  int // the split node's place
	above   int // how many splits lie above the split node
	isRight bool
}

// begin gives a way that stands at the root.
func begin(p api.Problem) *way {
	p.Vars = slices.Clone(p.Vars)
	return &way{problem: p}
}

// fork says that the node where the way stands, at this place, is split: its parts come next.
func (w *way) fork(place int) {
	above := len(w.passed)
	w.ahead = append(w.ahead, part{place, above, true}, part{place, above, false})
}

// goesOn tells whether there is a part still to be gone to.
func (w *way) goesOn() bool { return len(w.ahead) > 0 }

// next goes to the next part, and tells which it is.
func (w *way) next(tree []api.Node) part {
	last := len(w.ahead) - 1
	to := w.ahead[last]
	w.ahead = w.ahead[:last]
	w.backTo(to.above)
	w.pass(tree[to.parent], to.isRight)
	return to
}

// backTo takes back all passages but the first ones.
func (w *way) backTo(above int) {
	for _, gone := range slices.Backward(w.passed[above:]) {
		w.problem.Vars[gone.place] = gone.was
	}
	w.passed = w.passed[:above]
}

// pass goes from a split node to one of its parts.
func (w *way) pass(n api.Node, isRight bool) {
	v := &w.problem.Vars[n.Var]
	w.passed = append(w.passed, passage{n.Var, *v})
	if isRight {
		raise(&v.Lo, whole.Add(n.At, whole.Of(1)))
		return
	}
	lower(&v.Hi, n.At)
}

// raise sets a Lo to a whole number, if it was absent or below that.
func raise(lo *api.Bound, to api.Int) {
	if end := fraction(to); !lo.Has || rat.Cmp(lo.At, end) < 0 {
		*lo = api.Bound{Has: true, At: end}
	}
}

// lower sets a Hi to a whole number, if it was absent or above that.
func lower(hi *api.Bound, to api.Int) {
	if end := fraction(to); !hi.Has || rat.Cmp(hi.At, end) > 0 {
		*hi = api.Bound{Has: true, At: end}
	}
}

func fraction(a api.Int) api.Rat {
	// No error: 1 isn't nought.
	r, _ := rat.Make(a, whole.Of(1))
	return r
}

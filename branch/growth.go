package branch

import (
	"slices"

	"vertex/api"
	"vertex/back"
	"vertex/model"
	"vertex/rat"
)

// growth is a search, as far as it has come.
type growth struct {
	way  *way // to the node that was made last
	tree []api.Node
	best int // the place of the leaf whose point is the best one so far, or none
}

// none stands for a place where there is nothing.
const none = -1

// plant begins a search with its root, whose problem is solved already.
func plant(p api.Problem, root api.Cert) *growth {
	g := &growth{way: begin(p), best: none}
	g.add(root)
	return g
}

// grow makes the next node.
func (g *growth) grow() {
	made := g.way.next(g.tree)
	parent := &g.tree[made.parent]
	if made.isRight {
		parent.Right = len(g.tree)
	} else {
		parent.Left = len(g.tree)
	}
	g.add(back.Solve(g.way.problem))
}

// add puts the node where the way stands at the tree's end, as what its certificate makes of it: P18.2.
func (g *growth) add(c api.Cert) {
	place := len(g.tree)
	node := api.Node{Cert: c}
	switch {
	case c.Verdict == api.Infeasible:
	case g.hasBest() && !isBetter(g.way.problem, c.Value, g.bestCert().Value):
	case model.Whole(g.way.problem, c.X):
		g.best = place
	default:
		j := firstBroken(g.way.problem, c.X)
		node = api.Node{Split: true, Var: j, At: rat.Floor(c.X[j])}
		g.way.fork(place)
	}
	g.tree = append(g.tree, node)
}

// firstBroken gives the least variable that must be whole and isn't, at a point that is not whole where it must be.
func firstBroken(p api.Problem, x []api.Rat) int {
	j := 0
	for !p.Vars[j].Whole || rat.IsWhole(x[j]) {
		j++
	}
	return j
}

func (g *growth) hasBest() bool { return g.best != none }

func (g *growth) bestCert() api.Cert { return g.tree[g.best].Cert }

// stopped tells a search that had to end: P18.3.
func (g *growth) stopped() api.Search {
	s := api.Search{Verdict: api.Stopped, Nodes: len(g.tree)}
	if g.hasBest() {
		s.X, s.Value = g.bestPoint()
	}
	return s
}

// unbounded tells a search that came to a whole point, from which a ray goes on for ever: P18.3.
func (g *growth) unbounded(ray []api.Rat) api.Search {
	x, _ := g.bestPoint()
	return api.Search{Verdict: api.Unbounded, X: x, Ray: ray, Nodes: len(g.tree)}
}

// ended tells a search that went through the whole tree: P18.3.
func (g *growth) ended() api.Search {
	s := api.Search{Verdict: api.Infeasible, Tree: g.tree, Nodes: len(g.tree)}
	if g.hasBest() {
		s.Verdict = api.Optimal
		s.X, s.Value = g.bestPoint()
	}
	return s
}

// bestPoint gives the best point and its value, in other memory than the tree's: both may be answered.
func (g *growth) bestPoint() ([]api.Rat, api.Rat) {
	c := g.bestCert()
	x := make([]api.Rat, len(c.X))
	for j, number := range c.X {
		x[j] = rat.Norm(number)
	}
	return x, rat.Norm(c.Value)
}

// withoutObjective gives the problem with Const and all Objs 0.
func withoutObjective(p api.Problem) api.Problem {
	p.Const, p.Vars = api.Rat{}, slices.Clone(p.Vars)
	for j := range p.Vars {
		p.Vars[j].Obj = api.Rat{}
	}
	return p
}

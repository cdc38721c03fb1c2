package branch_test

import (
	"math"
	"testing"

	"vertex/api"
	"vertex/branch"
)

// The chapter's problems.
const (
	bag    = "max 5 x + 4 y st r: 6 x + 4 y <= 24 s: x + 2 y <= 6 bounds x <= 5 y <= 5 int x y"
	thirds = "min x st bounds 1/3 <= x <= 2/3 int x"
	upward = "max x + y st bounds x <= 3/2 int x"
	open   = "min x st int x"
	freely = "min x + y st bounds y >= 1/2"
)

// The chapter's examples of Run, trees and all.
func TestExamplesOfRun(t *testing.T) {
	runs(t, problem(bag), 100, "optimal, value 20, X 4 0, 5 nodes | 1 at 1: 1 4 | 0 at 3: 2 3 | optimal, value 19, X 3 1, Y 0 0 | optimal, value 20, X 4 0, Y 1 0 | optimal, value 18, X 2 2, Y 0 5")
	runs(t, problem(thirds), 100, "infeasible, 3 nodes | 0 at 0: 1 2 | infeasible | infeasible")
	runs(t, problem(thirds), 2, "stopped, 2 nodes")
	runs(t, problem(upward), 100, "unbounded, X 1 0, Ray 0 1, 2 nodes")
	refuses(t, problem(open), 100, api.ErrOpen)
	refuses(t, problem(open), 0, api.ErrArg)
	runs(t, problem(freely), 100, "optimal, value 1/2, X 0 1/2, 1 nodes | optimal, value 1/2, X 0 1/2")
}

// P18.1: ErrArg of most 0 and below, ahead of ErrOpen; one node may be enough.
func TestMostThatMayNotBe(t *testing.T) {
	for _, text := range []string{bag, thirds, upward, open, freely, "min st", "max x st x >= 2 x <= 1"} {
		for _, most := range []int{0, -1, -100, math.MinInt} {
			refuses(t, problem(text), most, api.ErrArg)
		}
	}
	runs(t, problem(freely), 1, "optimal, value 1/2, X 0 1/2, 1 nodes | optimal, value 1/2, X 0 1/2")
	runs(t, problem(bag), math.MaxInt, told(searched(t, problem(bag), 100)))
}

// bounded gives a variable bounds that may be absent, whatever number stands in them.
func bounded(hasLo, hasHi, isWhole bool) api.Var {
	return api.Var{Obj: num("1"), Lo: api.Bound{Has: hasLo, At: num("2")}, Hi: api.Bound{Has: hasHi, At: num("3")}, Whole: isWhole}
}

// P18.1, P18.4: open is a problem in which a whole variable lacks its Lo, its Hi or both, wherever it stands; variables that needn't be whole may lack them.
func TestOpen(t *testing.T) {
	others := []api.Var{bounded(false, false, false), bounded(true, false, false), bounded(true, true, true), bounded(false, true, false)}
	for _, lacks := range [][2]bool{{true, false}, {false, true}, {false, false}} {
		for place := range len(others) + 1 {
			for _, max := range []bool{false, true} {
				p := api.Problem{Max: max}
				p.Vars = append(p.Vars, others[:place]...)
				p.Vars = append(p.Vars, bounded(lacks[0], lacks[1], true))
				p.Vars = append(p.Vars, others[place:]...)
				refuses(t, p, 1, api.ErrOpen)
				for verdict := range 6 {
					checks(t, p, api.Search{Verdict: verdict}, api.ErrOpen)
				}
				p.Vars[place].Whole = false
				if _, err := branch.Run(p, 9); err != nil {
					t.Errorf("%s: %v", shown(p), err)
				}
				checks(t, p, api.Search{}, api.ErrVerdict)
			}
		}
	}
	// A problem without points is open all the same.
	refuses(t, problem("min x st x >= 1 x <= 0 int x"), 7, api.ErrOpen)
	checks(t, problem("min x st x >= 1 x <= 0 int x"), api.Search{Verdict: api.Infeasible, Tree: []api.Node{{Cert: api.Cert{Verdict: api.Infeasible, Y: list("1 -1")}}}}, api.ErrOpen)
}

// P18.2: At is the greatest whole number that isn't above the variable's, below nought too; the bounds of both parts.
func TestWhereAVariableIsSplit(t *testing.T) {
	for _, x := range []struct{ text, want string }{
		{"min x st bounds -7/2 <= x <= -1/3 int x", "optimal, value -3, X -3, 3 nodes | 0 at -4: 1 2 | infeasible | optimal, value -3, X -3"},
		{"max x st bounds -7/2 <= x <= -1/3 int x", "optimal, value -1, X -1, 3 nodes | 0 at -1: 1 2 | optimal, value -1, X -1 | infeasible"},
		{"max x st bounds -7/2 <= x <= 1/3 int x", "optimal, X 0, 3 nodes | 0 at 0: 1 2 | optimal, X 0 | infeasible"},
		{"min x st bounds -1/3 <= x <= 1 int x", "optimal, X 0, 3 nodes | 0 at -1: 1 2 | infeasible | optimal, X 0"},
		{"min x st bounds 7/2 <= x <= 9/2 int x", "optimal, value 4, X 4, 3 nodes | 0 at 3: 1 2 | infeasible | optimal, value 4, X 4"},
		{"min x st bounds -2/3 <= x <= -1/3 int x", "infeasible, 3 nodes | 0 at -1: 1 2 | infeasible | infeasible"},
		{"min x st bounds -36893488147419103233/2 <= x <= 36893488147419103233/2 int x", "optimal, value -18446744073709551616, X -18446744073709551616, 3 nodes | 0 at -18446744073709551617: 1 2 | infeasible | optimal, value -18446744073709551616, X -18446744073709551616"},
	} {
		runs(t, problem(x.text), 9, x.want)
	}
}

// P18.2: the least variable is split of those that must be whole and aren't: others may be broken ahead of it.
func TestWhichVariableIsSplit(t *testing.T) {
	runs(t, problem("max x + y + z + w st bounds x <= 1/2 y <= 3 z <= 5/2 w <= 7/3 int y z w"), 99,
		"optimal, value 15/2, X 1/2 3 2 2, 5 nodes | 2 at 2: 1 4 | 3 at 2: 2 3 | optimal, value 15/2, X 1/2 3 2 2 | infeasible | infeasible")
	runs(t, problem("max x + y + z + w st bounds x <= 1/2 y <= 3 z <= 5/2 w <= 7/3 int w"), 99,
		"optimal, value 8, X 1/2 3 5/2 2, 3 nodes | 3 at 2: 1 2 | optimal, value 8, X 1/2 3 5/2 2 | infeasible")
}

// P18.2: a leaf whose value is no better than the best point's, whole or not, leaves that as it is, and isn't split.
func TestLeavesThatAreNoBetter(t *testing.T) {
	for _, x := range []struct{ text, want string }{
		{"max 2 x + 2 y st 2 x + 2 y <= 3 bounds x <= 1 y <= 1 int x y", "optimal, value 2, X 0 1, 5 nodes | 0 at 0: 1 2 | optimal, value 2, X 0 1, Y 0 | 1 at 0: 3 4 | optimal, value 2, X 1 0, Y 0 | infeasible, Y -1"},
		{"min - 2 x - 2 y st 2 x + 2 y <= 3 bounds x <= 1 y <= 1 int x y", "optimal, value -2, X 0 1, 5 nodes | 0 at 0: 1 2 | optimal, value -2, X 0 1, Y 0 | 1 at 0: 3 4 | optimal, value -2, X 1 0, Y 0 | infeasible, Y -1"},
		{"max x + 3 y st 2 x + 2 y <= 7 bounds x <= 3 y <= 3 int x y", "optimal, value 9, X 0 3, 3 nodes | 0 at 0: 1 2 | optimal, value 9, X 0 3, Y 0 | optimal, value 17/2, X 1 5/2, Y 3/2"},
		{"max 3/2 x + 3 y st 2 x + 2 y <= 7 bounds x <= 3 y <= 3 int x y", "optimal, value 9, X 0 3, 3 nodes | 0 at 0: 1 2 | optimal, value 9, X 0 3, Y 0 | optimal, value 9, X 1 5/2, Y 3/2"},
		{"min - x - 3 y st 2 x + 2 y <= 7 bounds x <= 3 y <= 3 int x y", "optimal, value -9, X 0 3, 3 nodes | 0 at 0: 1 2 | optimal, value -9, X 0 3, Y 0 | optimal, value -17/2, X 1 5/2, Y -3/2"},
	} {
		runs(t, problem(x.text), 99, x.want)
		checks(t, problem(x.text), searched(t, problem(x.text), 99), nil)
	}
}

// P18.3: a problem that is unbounded is searched without its objective, till there is a whole point; without one all of the tree is told.
func TestUnbounded(t *testing.T) {
	for _, x := range []struct{ text, want string }{
		{"max 0 x + y st bounds x <= 1 int x", "unbounded, X 1 0, Ray 0 1, 1 nodes"},
		{"min 0 x - y + 7 st x + y >= 1/2 bounds 1/2 <= x <= 5/2 int x", "unbounded, X 2 0, Ray 0 1, 2 nodes"},
		{"max 0 x + y st bounds 1/3 <= x <= 2/3 int x", "infeasible, 3 nodes | 0 at 0: 1 2 | infeasible | infeasible"},
		{"max 0 x + y st 2 x = 1 bounds x <= 1 int x", "infeasible, 3 nodes | 0 at 0: 1 2 | infeasible, Y 1 | infeasible, Y -1"},
		{"max y + 3 st bounds y free", "unbounded, X 0, Ray 1, 1 nodes"},
		{"min y + 3 st bounds y free", "unbounded, X 0, Ray -1, 1 nodes"},
	} {
		runs(t, problem(x.text), 99, x.want)
		checks(t, problem(x.text), searched(t, problem(x.text), 99), nil)
	}
	runs(t, problem(upward), 1, "stopped, 1 nodes")
	runs(t, problem("max 0 x + y st bounds 1/3 <= x <= 2/3 int x"), 2, "stopped, 2 nodes")
}

// P18.1, P18.3: a search that is stopped at each number of nodes tells the best point so far, and nothing else.
func TestStopped(t *testing.T) {
	for most, want := range []string{"stopped, 1 nodes", "stopped, 2 nodes", "stopped, value 19, X 3 1, 3 nodes", "stopped, value 20, X 4 0, 4 nodes"} {
		runs(t, problem(bag), most+1, want)
	}
	for most, want := range []string{"stopped, 1 nodes", "stopped, 2 nodes"} {
		runs(t, problem(thirds), most+1, want)
	}
	// A best point whose value is nought is told all the same.
	p := problem("max 2 x + 2 y - 2 st 2 x + 2 y <= 3 bounds x <= 1 y <= 1 int x y")
	for most, want := range []string{"stopped, 1 nodes", "stopped, X 0 1, 2 nodes", "stopped, X 0 1, 3 nodes", "stopped, X 0 1, 4 nodes"} {
		runs(t, p, most+1, want)
	}
	for _, text := range []string{bag, thirds, "max 2 x + 2 y - 2 st 2 x + 2 y <= 3 bounds x <= 1 y <= 1 int x y"} {
		all := searched(t, problem(text), 1000)
		for most := all.Nodes; most < all.Nodes+4; most++ {
			runs(t, problem(text), most, told(all))
		}
	}
}

// P18.8: problems without whole variables have one node; so have those without variables or rows, and those whose point is whole at once.
func TestOneNode(t *testing.T) {
	for _, x := range []struct{ text, want string }{
		{"min st", "optimal, 1 nodes | optimal"},
		{"max 7/2 st", "optimal, value 7/2, 1 nodes | optimal, value 7/2"},
		{"max 3 x + 5 y st x + y <= 4 x + 3 y <= 6", "optimal, value 14, X 3 1, 1 nodes | optimal, value 14, X 3 1, Y 2 1"},
		{"max x st 2 x <= 5", "optimal, value 5/2, X 5/2, 1 nodes | optimal, value 5/2, X 5/2, Y 1/2"},
		{"min x st x >= 3 x <= 1 bounds x free", "infeasible, 1 nodes | infeasible, Y 1 -1"},
		{"max x - y st x - y >= 0", "unbounded, X 0 0, Ray 1 0, 1 nodes"},
		{"max x st bounds x <= 3 int x", "optimal, value 3, X 3, 1 nodes | optimal, value 3, X 3"},
		{"min x st bounds 5 <= x <= 3 int x", "infeasible, 1 nodes | infeasible"},
		{"min x st bounds 1/2 <= x <= 1/3 int x", "infeasible, 1 nodes | infeasible"},
		{"max x st 1 >= 2 bounds x <= 3 int x", "infeasible, 1 nodes | infeasible, Y 1"},
		{"max x + y st bounds 5/2 <= x <= 3/2 y <= 3 int x y", "infeasible, 1 nodes | infeasible"},
	} {
		for _, most := range []int{1, 2, 99} {
			runs(t, problem(x.text), most, x.want)
		}
	}
	runs(t, api.Problem{}, 1, "optimal, 1 nodes | optimal")
	runs(t, api.Problem{Max: true, Rows: []api.Row{{Lo: has("1")}}}, 1, "infeasible, 1 nodes | infeasible, Y 1")
	crossed := api.Problem{Rows: []api.Row{{Terms: []api.Term{{Coef: num("1")}}, Lo: has("3"), Hi: has("1")}}, Vars: []api.Var{bounded(true, true, true)}}
	runs(t, crossed, 1, secondTold(crossed, 1))
}

// P18.2: nodes stand in the order in which they are made, all of Left ahead of Right: of a tree that is deep on both sides.
func TestPlaces(t *testing.T) {
	p := problem("min x st 2 x - 2 y = 1 bounds x <= 3 y <= 3 int x y")
	s := searched(t, p, 1000)
	next := 0
	var visit func(place int)
	visit = func(place int) {
		if place != next {
			t.Fatalf("node %d is made as number %d\nof %s", place, next, told(s))
		}
		next++
		if n := s.Tree[place]; n.Split {
			visit(n.Left)
			visit(n.Right)
		}
	}
	visit(0)
	if next != len(s.Tree) || next != s.Nodes || next < 9 {
		t.Errorf("%d nodes, of %s", next, told(s))
	}
}

// P18.1: trees that are deeper than they are broad, to either side.
func TestDeepSearches(t *testing.T) {
	for _, text := range []string{
		"min x st 2 x - 2 y = 1 bounds x <= 150 y <= 150 int x y",
		"max x st 2 x - 2 y = 1 bounds x <= 150 y <= 150 int x y",
	} {
		p := problem(text)
		s := searched(t, p, 100000)
		if s.Verdict != api.Infeasible || s.Nodes < 200 || len(s.Tree) != s.Nodes {
			t.Errorf("%s", headOf(s))
		}
		checks(t, p, s, nil)
	}
}

// R5, R6: numbers of whatever form, terms that add up, terms of no variable, bounds that are absent though a number stands there.
func TestProblemsByHand(t *testing.T) {
	p := api.Problem{
		Max:   true,
		Const: noughts()[3],
		Vars:  []api.Var{{Obj: odd("5"), Lo: api.Bound{Has: true, At: noughts()[4]}, Hi: api.Bound{Has: true, At: odd("5")}, Whole: true}, {Obj: odd("4"), Lo: api.Bound{Has: true}, Hi: api.Bound{Has: true, At: odd("5")}, Whole: true}},
		Rows: []api.Row{
			{Terms: []api.Term{{Var: 0, Coef: odd("4")}, {Var: 1, Coef: odd("4")}, {Var: 0, Coef: odd("2")}, {Var: 2, Coef: odd("9")}}, Lo: api.Bound{At: odd("99")}, Hi: api.Bound{Has: true, At: odd("24")}},
			{Terms: []api.Term{{Var: 1, Coef: odd("2")}, {Var: -1, Coef: odd("9")}, {Var: 0, Coef: odd("1")}}, Hi: api.Bound{Has: true, At: odd("6")}},
		},
	}
	want := told(searched(t, problem(bag), 100))
	runs(t, p, 100, want)
	checks(t, p, searched(t, problem(bag), 100), nil)
}

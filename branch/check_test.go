package branch_test

import (
	"math"
	"slices"
	"testing"

	"vertex/api"
	"vertex/branch"
)

// turned asks what Check answers of Run's search of a problem, when something of it is changed.
func turned(t *testing.T, text string, want error, change func(s *api.Search)) {
	t.Helper()
	p := problem(text)
	s := searched(t, p, 1000)
	change(&s)
	checks(t, p, s, want)
}

// The chapter's examples of Check.
func TestExamplesOfCheck(t *testing.T) {
	turned(t, thirds, nil, func(*api.Search) {})
	turned(t, thirds, api.ErrTree, func(s *api.Search) { s.Tree[0].Right = 1 })
	turned(t, thirds, api.ErrTree, func(s *api.Search) { s.Tree[0].Left = 0 })
	turned(t, thirds, api.ErrTree, func(s *api.Search) { s.Tree[0].Var = 1 })
	turned(t, thirds, api.ErrTree, func(s *api.Search) { s.Tree = nil })
	turned(t, thirds, api.ErrBound, func(s *api.Search) { s.Tree[0].At = integer("5") })
	turned(t, bag, nil, func(*api.Search) {})
	turned(t, bag, api.ErrValue, func(s *api.Search) { s.Value = num("19") })
	turned(t, bag, api.ErrBound, func(s *api.Search) { s.Value, s.X = num("19"), list("3 1") })
	turned(t, bag, api.ErrShape, func(s *api.Search) { s.X = list("4 0 1") })
}

// P18.8: Check accepts what Run answers of the chapter's problems, but a search that was stopped.
func TestWhatRunAnswersIsAccepted(t *testing.T) {
	for _, text := range []string{bag, thirds, upward, freely, "min st", "min x st x >= 3 x <= 1", "max 0 x + y st 2 x = 1 bounds x <= 1 int x", "min x st bounds 5 <= x <= 3 int x"} {
		turned(t, text, nil, func(*api.Search) {})
	}
	for _, text := range []string{bag, thirds, upward} {
		checks(t, problem(text), searched(t, problem(text), 1), api.ErrVerdict)
	}
}

// P18.4: verdicts that are none, whatever else is there.
func TestVerdictsThatAreNone(t *testing.T) {
	for _, verdict := range []int{0, api.Stopped, 5, -1, math.MaxInt, math.MinInt} {
		for _, text := range []string{bag, thirds, upward, freely} {
			turned(t, text, api.ErrVerdict, func(s *api.Search) { s.Verdict = verdict })
			turned(t, text, api.ErrVerdict, func(s *api.Search) { *s = api.Search{Verdict: verdict} })
		}
		checks(t, problem(open), api.Search{Verdict: verdict}, api.ErrOpen)
	}
}

// P18.5: the point of an optimal search and of an unbounded one, of a list that is too short, too long, that doesn't hold, that isn't whole.
func TestThePoint(t *testing.T) {
	for _, x := range []struct {
		point string
		want  error
	}{
		{"", api.ErrShape}, {"4", api.ErrShape}, {"4 0 0", api.ErrShape}, {"9 1/2 0", api.ErrShape},
		{"5 0", api.ErrPoint}, {"4 1", api.ErrPoint}, {"-1 0", api.ErrPoint}, {"4 -1", api.ErrPoint}, {"6 -3", api.ErrPoint}, {"9/2 0", api.ErrPoint}, {"1/2 7/2", api.ErrPoint},
		{"7/2 0", api.ErrWhole}, {"3 3/2", api.ErrWhole}, {"3 3/4", api.ErrWhole}, {"1/2 1/2", api.ErrWhole},
		{"3 1", api.ErrValue}, {"0 0", api.ErrValue},
		{"4 0", nil},
	} {
		turned(t, bag, x.want, func(s *api.Search) { s.X = list(x.point) })
		turned(t, bag, x.want, func(s *api.Search) { s.X = odds(x.point) })
		if x.want != api.ErrValue && x.want != nil {
			// The point comes ahead of the value and of the tree.
			turned(t, bag, x.want, func(s *api.Search) { *s = api.Search{Verdict: api.Optimal, X: list(x.point), Value: num("99")} })
		}
	}
	for _, x := range []struct {
		point string
		want  error
	}{
		{"", api.ErrShape}, {"1", api.ErrShape}, {"1 0 0", api.ErrShape}, {"2 0", api.ErrPoint}, {"1 -1", api.ErrPoint}, {"-1/2 0", api.ErrPoint}, {"3/2 0", api.ErrWhole}, {"1/2 9", api.ErrWhole}, {"1 0", nil}, {"0 0", nil}, {"1 7/3", nil},
	} {
		turned(t, upward, x.want, func(s *api.Search) { s.X = list(x.point) })
		if x.want != nil {
			turned(t, upward, x.want, func(s *api.Search) { s.X, s.Ray = list(x.point), nil })
		}
	}
	// What needn't be whole may be broken.
	turned(t, freely, nil, func(*api.Search) {})
	turned(t, freely, api.ErrValue, func(s *api.Search) { s.X = list("1/3 1/2") })
}

// P18.4: the value at X, ahead of the tree.
func TestTheValue(t *testing.T) {
	for _, value := range []string{"0", "19", "21", "-20", "20000000000000000000001/1000000000000000000000"} {
		turned(t, bag, api.ErrValue, func(s *api.Search) { s.Value = num(value) })
		turned(t, bag, api.ErrValue, func(s *api.Search) { s.Value, s.Tree = num(value), nil })
	}
	turned(t, bag, nil, func(s *api.Search) { s.Value = odd("20") })
	for _, nought := range noughts() {
		turned(t, bag, api.ErrValue, func(s *api.Search) { s.Value = nought })
	}
	p := problem("max x st bounds x <= 1/2 int x")
	for _, nought := range noughts() {
		s := searched(t, p, 9)
		s.Value, s.X = nought, []api.Rat{nought}
		checks(t, p, s, nil)
	}
}

// P18.4: the ray of an unbounded search; neither Value nor Tree is looked at.
func TestTheRay(t *testing.T) {
	for _, x := range []struct {
		ray  string
		want error
	}{
		{"", api.ErrShape}, {"0", api.ErrShape}, {"0 1 0", api.ErrShape},
		{"1 1", api.ErrRay}, {"-1 1", api.ErrRay}, {"1/2 0", api.ErrRay}, {"0 0", api.ErrRay}, {"0 -1", api.ErrRay},
		{"0 1", nil}, {"0 1/7", nil}, {"0 99", nil},
	} {
		turned(t, upward, x.want, func(s *api.Search) { s.Ray = list(x.ray) })
		turned(t, upward, x.want, func(s *api.Search) {
			s.Ray, s.Value, s.Tree, s.Nodes = odds(x.ray), num("7"), []api.Node{{Split: true, Var: -9, Left: -9}}, -3
		})
	}
	turned(t, bag, api.ErrRay, func(s *api.Search) { s.Verdict, s.Ray = api.Unbounded, list("0 0") })
	turned(t, bag, api.ErrShape, func(s *api.Search) { s.Verdict = api.Unbounded })
}

// P18.6: places of parts that may not be, of each of the two, and variables that may not be split.
func TestTreesThatAreNone(t *testing.T) {
	for _, place := range []int{0, -1, -2, math.MinInt, 5, 6, math.MaxInt, 1 << 32} {
		turned(t, bag, api.ErrTree, func(s *api.Search) { s.Tree[0].Left = place })
		turned(t, bag, api.ErrTree, func(s *api.Search) { s.Tree[0].Right = place })
		turned(t, bag, api.ErrTree, func(s *api.Search) { s.Tree[1].Left = place })
		turned(t, bag, api.ErrTree, func(s *api.Search) { s.Tree[1].Right = place })
	}
	// The own place, and a place that is reached from elsewhere.
	turned(t, bag, api.ErrTree, func(s *api.Search) { s.Tree[1].Left = 1 })
	turned(t, bag, api.ErrTree, func(s *api.Search) { s.Tree[1].Right = 1 })
	turned(t, bag, api.ErrTree, func(s *api.Search) { s.Tree[1].Right = 4 })
	turned(t, bag, api.ErrTree, func(s *api.Search) { s.Tree[1].Left = 3 })
	turned(t, bag, api.ErrTree, func(s *api.Search) { s.Tree[0].Right = 3 })
	turned(t, bag, api.ErrTree, func(s *api.Search) { s.Tree[0].Left, s.Tree[0].Right = 4, 4 })
	for _, variable := range []int{2, 3, -1, math.MaxInt, math.MinInt} {
		turned(t, bag, api.ErrTree, func(s *api.Search) { s.Tree[0].Var = variable })
		turned(t, bag, api.ErrTree, func(s *api.Search) { s.Tree[1].Var = variable })
	}
	for length := range 5 {
		turned(t, bag, api.ErrTree, func(s *api.Search) { s.Tree = s.Tree[:length] })
	}
	turned(t, bag, api.ErrTree, func(s *api.Search) { s.Tree = []api.Node{} })
	// A part that stands at its own node's place, or ahead, of a node that is reached all the same.
	turned(t, bag, api.ErrTree, func(s *api.Search) { s.Tree[4] = api.Node{Split: true, Left: 2, Right: 3} })
	turned(t, bag, api.ErrTree, func(s *api.Search) { s.Tree[4] = api.Node{Split: true, Left: 4, Right: 4} })
}

// P18.6: variables that needn't be whole can't be split, be it that they have both bounds.
func TestSplitAtWhatNeedNotBeWhole(t *testing.T) {
	p := problem("max x + y + z st bounds x <= 2 y <= 1/2 z <= 3 int y")
	whole := searched(t, p, 99)
	checks(t, p, whole, nil)
	for variable, want := range []error{api.ErrTree, nil, api.ErrTree} {
		s := whole
		s.Tree = slices.Clone(s.Tree)
		s.Tree[0].Var = variable
		checks(t, p, s, want)
	}
}

// P18.6: ErrTree comes ahead of all leaves, wherever it is; the whole point and the value come ahead of it.
func TestTreeAheadOfLeaves(t *testing.T) {
	spoil := func(s *api.Search) {
		for k := range s.Tree {
			s.Tree[k].Cert = api.Cert{}
		}
	}
	turned(t, bag, api.ErrVerdict, spoil)
	turned(t, bag, api.ErrTree, func(s *api.Search) { spoil(s); s.Tree[0].Right = 9 })
	turned(t, bag, api.ErrTree, func(s *api.Search) { spoil(s); s.Tree[1].Right = 4 })
	turned(t, bag, api.ErrTree, func(s *api.Search) { spoil(s); s.Tree[4] = api.Node{Split: true} })
	turned(t, thirds, api.ErrTree, func(s *api.Search) { spoil(s); s.Tree[0].Var = -1 })
	turned(t, thirds, api.ErrTree, func(s *api.Search) { spoil(s); s.Tree[2] = api.Node{Split: true, Left: 3, Right: 4} })
}

// P18.6: what a leaf's certificate may be: its verdict, what check.Check says, and the value, in this order.
func TestLeaves(t *testing.T) {
	for _, verdict := range []int{0, api.Unbounded, api.Stopped, 5, -1} {
		for _, leaf := range []int{2, 3, 4} {
			turned(t, bag, api.ErrVerdict, func(s *api.Search) { s.Tree[leaf].Cert.Verdict = verdict })
			turned(t, bag, api.ErrVerdict, func(s *api.Search) { s.Tree[leaf].Cert = api.Cert{Verdict: verdict} })
		}
	}
	for _, verdict := range []int{0, api.Optimal, api.Unbounded, api.Stopped, -1} {
		turned(t, thirds, api.ErrVerdict, func(s *api.Search) { s.Tree[1].Cert.Verdict = verdict })
		turned(t, thirds, api.ErrVerdict, func(s *api.Search) { s.Tree[2].Cert.Verdict = verdict })
	}
	for _, leaf := range []int{2, 3, 4} {
		cert := func(want error, change func(c *api.Cert)) {
			t.Helper()
			turned(t, bag, want, func(s *api.Search) { change(&s.Tree[leaf].Cert) })
		}
		cert(api.ErrShape, func(c *api.Cert) { c.X = c.X[:1] })
		cert(api.ErrShape, func(c *api.Cert) { c.X = append(c.X, num("0")) })
		cert(api.ErrShape, func(c *api.Cert) { c.Y = nil })
		cert(api.ErrShape, func(c *api.Cert) { c.Y = append(c.Y, num("0")) })
		cert(api.ErrPoint, func(c *api.Cert) { c.X[0] = num("-1") })
		cert(api.ErrValue, func(c *api.Cert) { c.Value = num("17") })
		cert(api.ErrValue, func(c *api.Cert) { c.Value = num("21") })
		cert(api.ErrBound, func(c *api.Cert) { c.Y[1] = num("-1") })
		cert(api.ErrBound, func(c *api.Cert) { c.Y[1] = num("9") })
		cert(api.ErrBound, func(c *api.Cert) { c.Verdict = api.Infeasible })
		cert(api.ErrShape, func(c *api.Cert) { c.Verdict, c.Y = api.Infeasible, c.Y[1:] })
	}
}

// P18.6: a leaf that is better than the search, by however little, in either sense; one that is as good is no fault.
func TestLeavesThatAreBetter(t *testing.T) {
	for _, x := range []struct{ text, worse, less string }{
		{"max x st bounds x <= 1 int x", "0", "0"},
		{"min x st bounds -1 <= x <= 0 int x", "0", "0"},
		{"max 1/1000000000000000000000 x + 7 st bounds x <= 1 int x", "7", "0"},
	} {
		turned(t, x.text, nil, func(*api.Search) {})
		turned(t, x.text, api.ErrBound, func(s *api.Search) { s.Value, s.X = num(x.worse), list(x.less) })
	}
	// The same leaf proves both of two points that are as good.
	p := problem("max x + y st x + y <= 1 bounds x <= 1 y <= 1 int x y")
	for _, x := range []string{"1 0", "0 1"} {
		s := searched(t, p, 9)
		s.X = list(x)
		checks(t, p, s, nil)
	}
}

// split makes a split node, leaf one with a certificate.
func split(variable int, at string, left, right int) api.Node {
	return api.Node{Split: true, Var: variable, At: integer(at), Left: left, Right: right}
}

func leaf(c api.Cert) api.Node { return api.Node{Cert: c} }

// optimal and infeasible are certificates with those fields that the verdict names.
func optimal(value, x, y string) api.Cert {
	return api.Cert{Verdict: api.Optimal, Value: num(value), X: list(x), Y: list(y)}
}

func infeasible(y string) api.Cert { return api.Cert{Verdict: api.Infeasible, Y: list(y)} }

// P18.6: leaves are asked in order, all of Left ahead of Right, wherever they stand: the first one that is wrong tells the error.
func TestOrderOfLeaves(t *testing.T) {
	p := problem("max x st bounds x <= 3 int x")
	// The leaves are those of 0, 1, 2 and 3.
	order := []int{4, 3, 7, 6}
	tree := []api.Node{
		split(0, "1", 1, 5), split(0, "0", 4, 3), split(-7, "0", 0, 0), leaf(optimal("1", "1", "")),
		leaf(optimal("0", "0", "")), split(0, "2", 7, 6), leaf(optimal("3", "3", "")), leaf(optimal("2", "2", "")),
	}
	s := api.Search{Verdict: api.Optimal, Value: num("3"), X: list("3"), Tree: tree}
	checks(t, p, s, nil)
	wrong := map[error]api.Cert{
		api.ErrVerdict: {Verdict: api.Unbounded},
		api.ErrShape:   infeasible("1"),
		api.ErrPoint:   optimal("9", "9", ""),
		api.ErrBound:   infeasible(""),
	}
	for first, a := range wrong {
		for then, b := range wrong {
			for i := range order {
				for j := i + 1; j < len(order); j++ {
					s.Tree = slices.Clone(tree)
					s.Tree[order[i]].Cert, s.Tree[order[j]].Cert = a, b
					if got := branch.Check(p, s); got != first {
						t.Errorf("leaves %d and %d: %s, want %s ahead of %s", i, j, errorOf(got), errorOf(first), errorOf(then))
					}
				}
			}
		}
	}
}

// P18.6: the parts' bounds: a split never loosens a bound, on either side, and what was cut away stays away in all that comes of a part.
func TestBoundsOfParts(t *testing.T) {
	p := problem("max x st bounds 1/2 <= x <= 5/2 int x")
	for _, x := range []struct {
		name string
		tree []api.Node
		want error
	}{
		{"cut at the top", []api.Node{split(0, "2", 1, 2), leaf(optimal("2", "2", "")), leaf(infeasible(""))}, nil},
		{"cut above the top: Left is as it was", []api.Node{split(0, "3", 1, 2), leaf(optimal("5/2", "5/2", "")), leaf(infeasible(""))}, api.ErrBound},
		{"cut above the top: Left does not reach to At", []api.Node{split(0, "3", 1, 2), leaf(optimal("3", "3", "")), leaf(infeasible(""))}, api.ErrPoint},
		{"cut below: Right is as it was", []api.Node{split(0, "-1", 1, 2), leaf(infeasible("")), leaf(optimal("5/2", "5/2", ""))}, api.ErrBound},
		{"cut at nought: Right begins at 1", []api.Node{split(0, "0", 1, 2), leaf(infeasible("")), leaf(optimal("5/2", "5/2", ""))}, api.ErrBound},
		{"cut twice", []api.Node{split(0, "1", 1, 2), leaf(optimal("1", "1", "")), split(0, "2", 3, 4), leaf(optimal("2", "2", "")), leaf(infeasible(""))}, nil},
		{"cut twice, the second time above", []api.Node{split(0, "2", 1, 2), split(0, "7", 3, 4), leaf(infeasible("")), leaf(optimal("2", "2", "")), leaf(infeasible(""))}, nil},
		{"the bound of Left does not hold in Right", []api.Node{split(0, "1", 1, 2), leaf(optimal("1", "1", "")), leaf(infeasible(""))}, api.ErrBound},
		{"the bound of Right does not hold in Left", []api.Node{split(0, "2", 1, 2), leaf(infeasible("")), leaf(infeasible(""))}, api.ErrBound},
		{"what was cut on the way to Left is back on the way to Right", []api.Node{split(0, "1", 1, 2), split(0, "0", 3, 4), leaf(infeasible("")), leaf(infeasible("")), leaf(optimal("1", "1", ""))}, api.ErrBound},
		{"the same, with what is due there", []api.Node{split(0, "1", 1, 2), split(0, "0", 3, 4), split(0, "2", 5, 6), leaf(infeasible("")), leaf(optimal("1", "1", "")), leaf(optimal("2", "2", "")), leaf(infeasible(""))}, nil},
	} {
		cuts(t, x.name, p, api.Search{Verdict: api.Optimal, Value: num("2"), X: list("2"), Tree: x.tree}, x.want)
	}
}

// cuts asks what Check answers, of a tree that has a name.
func cuts(t *testing.T, name string, p api.Problem, s api.Search, want error) {
	t.Helper()
	if got, second := branch.Check(p, s), secondCheck(p, s); got != want || second != want {
		t.Errorf("%s: %s, a second time %s, want %s", name, errorOf(got), errorOf(second), errorOf(want))
	}
}

// P18.6: the same from below, where it is the Lo that bears.
func TestBoundsOfPartsFromBelow(t *testing.T) {
	p := problem("min x st bounds 1 <= x <= 5/2 int x")
	for _, x := range []struct {
		name string
		tree []api.Node
		want error
	}{
		{"cut below the bottom: Right is as it was", []api.Node{split(0, "-2", 1, 2), leaf(infeasible("")), leaf(optimal("1", "1", ""))}, nil},
		{"cut below the bottom: Right does not reach down to At and 1", []api.Node{split(0, "-2", 1, 2), leaf(infeasible("")), leaf(optimal("-1", "-1", ""))}, api.ErrPoint},
		{"cut just below the bottom", []api.Node{split(0, "0", 1, 2), leaf(infeasible("")), leaf(optimal("1", "1", ""))}, nil},
		{"cut at the bottom", []api.Node{split(0, "1", 1, 2), leaf(optimal("1", "1", "")), leaf(optimal("2", "2", ""))}, nil},
		{"cut at the bottom: Right begins behind it", []api.Node{split(0, "1", 1, 2), leaf(optimal("1", "1", "")), leaf(optimal("1", "1", ""))}, api.ErrPoint},
		{"cut twice, the second time below", []api.Node{split(0, "1", 1, 2), leaf(optimal("1", "1", "")), split(0, "-3", 3, 4), leaf(infeasible("")), leaf(optimal("2", "2", ""))}, nil},
	} {
		cuts(t, x.name, p, api.Search{Verdict: api.Optimal, Value: num("1"), X: list("1"), Tree: x.tree}, x.want)
	}
}

// P18.6: a split that leaves a part as it was is none to be refused; numbers of any size, in any form.
func TestSplitsWithoutUse(t *testing.T) {
	p := problem("max x st bounds x <= 3 int x")
	for _, at := range []api.Int{integer("3"), integer("4"), integer("340282366920938463463374607431768211456"), {Mag: api.Nat{3, 0, 0}}} {
		n := split(0, "0", 1, 2)
		n.At = at
		s := api.Search{Verdict: api.Optimal, Value: num("3"), X: list("3"), Tree: []api.Node{n, leaf(optimal("3", "3", "")), leaf(infeasible(""))}}
		checks(t, p, s, nil)
	}
	for _, at := range []api.Int{integer("-1"), integer("-340282366920938463463374607431768211456"), {Neg: true, Mag: api.Nat{1, 0}}} {
		n := split(0, "0", 1, 2)
		n.At = at
		s := api.Search{Verdict: api.Optimal, Value: num("3"), X: list("3"), Tree: []api.Node{n, leaf(infeasible("")), leaf(optimal("3", "3", ""))}}
		checks(t, p, s, nil)
	}
	for _, at := range []api.Int{{}, {Neg: true}, {Neg: true, Mag: api.Nat{0}}, {Mag: api.Nat{0, 0}}} {
		n := split(0, "0", 1, 2)
		n.At = at
		s := api.Search{Verdict: api.Optimal, Value: num("3"), X: list("3"), Tree: []api.Node{n, leaf(optimal("0", "0", "")), leaf(optimal("3", "3", ""))}}
		checks(t, p, s, nil)
	}
}

// P18.4, P18.6: of an infeasible search neither X nor Value nor Ray is looked at; of none Nodes; nor are nodes that aren't reached, a split node's Cert, and where a leaf would be split.
func TestFieldsThatAreNotNamed(t *testing.T) {
	turned(t, thirds, nil, func(s *api.Search) {
		s.X, s.Value, s.Ray, s.Nodes = list("1 2 3"), num("7"), list("9"), -5
	})
	turned(t, bag, nil, func(s *api.Search) { s.Ray, s.Nodes = list("9"), 1<<40 })
	turned(t, thirds, nil, func(s *api.Search) { s.Tree[0].Cert = optimal("9", "9", "9") })
	turned(t, thirds, nil, func(s *api.Search) {
		s.Tree[1].Var, s.Tree[1].At, s.Tree[1].Left, s.Tree[1].Right = -9, integer("7"), 1, -4
	})
	turned(t, thirds, nil, func(s *api.Search) {
		s.Tree = append(s.Tree, api.Node{Split: true, Var: 99, Left: -1, Right: -1}, api.Node{Split: true, Left: 1, Right: 2}, api.Node{Split: true, Left: 0, Right: 5}, leaf(api.Cert{Verdict: 77}))
	})
	turned(t, bag, nil, func(s *api.Search) {
		s.Tree = append(s.Tree, leaf(optimal("99", "4 0", "")), api.Node{Split: true, Left: 2, Right: 4})
	})
	// Nodes that aren't reached may stand between those that are.
	p := problem(thirds)
	checks(t, p, api.Search{Verdict: api.Infeasible, Tree: []api.Node{split(0, "0", 4, 2), split(-1, "0", 1, 1), leaf(infeasible("")), leaf(api.Cert{}), leaf(infeasible(""))}}, nil)
}

// P18.6: one leaf may prove it all; a split below what is proven already is no fault.
func TestOneLeaf(t *testing.T) {
	p := problem("max x st 2 x <= 1 bounds x <= 3 int x")
	checks(t, p, api.Search{Verdict: api.Optimal, X: list("0"), Tree: []api.Node{leaf(optimal("1/2", "1/2", "1/2"))}}, api.ErrBound)
	checks(t, p, api.Search{Verdict: api.Optimal, X: list("0"), Tree: []api.Node{split(0, "0", 1, 2), leaf(optimal("0", "0", "0")), leaf(infeasible("-1"))}}, nil)
	q := problem("max x st 2 x <= 1 bounds 1 <= x <= 3 int x")
	checks(t, q, api.Search{Verdict: api.Infeasible, Tree: []api.Node{leaf(infeasible("-1"))}}, nil)
	checks(t, q, api.Search{Verdict: api.Infeasible, Tree: []api.Node{split(0, "1", 1, 2), leaf(infeasible("-1")), leaf(infeasible("-1/2"))}}, nil)
	checks(t, api.Problem{}, api.Search{Verdict: api.Optimal, Tree: []api.Node{leaf(optimal("0", "", ""))}}, nil)
	checks(t, api.Problem{}, api.Search{Verdict: api.Infeasible, Tree: []api.Node{leaf(infeasible(""))}}, api.ErrBound)
	checks(t, api.Problem{}, api.Search{Verdict: api.Unbounded}, api.ErrRay)
	checks(t, api.Problem{}, api.Search{Verdict: api.Optimal, Tree: []api.Node{{Split: true}}}, api.ErrTree)
}

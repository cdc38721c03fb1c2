package branch_test

import (
	"math/big"
	"slices"
	"testing"

	"vertex/api"
	"vertex/back"
	"vertex/branch"
)

// kindOf names what a search came to, for counting.
func kindOf(p api.Problem, s api.Search) string {
	kind := senseOf(p) + " " + verdictOf(s.Verdict)
	if s.Verdict == api.Stopped && len(s.X) > 0 {
		kind += " with a point"
	}
	return kind
}

// P18.1 to P18.3: problems of all kinds are searched as the promises' words say, to the very numbers, and what is answered is accepted.
func TestProblemsByChance(t *testing.T) {
	r, count := chances(18), map[string]int{}
	for range 5000 {
		p := r.problem(r.size())
		most := 1000
		if r.often(3) {
			most = 1 + r.Intn(9)
		}
		s := searched(t, p, most)
		if want := secondTold(p, most); told(s) != want {
			t.Fatalf("Run(%s, %d):\n%s, want\n%s", shown(p), most, told(s), want)
		}
		if s.Verdict == api.Stopped {
			checks(t, p, s, api.ErrVerdict)
		} else {
			checks(t, p, s, nil)
		}
		count[kindOf(p, s)]++
		if s.Nodes > 3 {
			count["deep "+kindOf(p, s)]++
		}
		if back.Solve(p).Verdict == api.Unbounded {
			count["endless "+kindOf(p, s)]++
		}
	}
	for _, sense := range []string{"min ", "max "} {
		enough(t, 30, count, sense+"optimal", sense+"infeasible", sense+"unbounded", sense+"stopped", sense+"stopped with a point")
		enough(t, 20, count, "deep "+sense+"optimal", "deep "+sense+"infeasible", "deep "+sense+"stopped with a point")
		enough(t, 20, count, "endless "+sense+"infeasible")
		enough(t, 3, count, "deep "+sense+"unbounded", "endless "+sense+"stopped")
	}
}

// P18.3, P18.7: what Run answers is true, by a way that goes through all whole numbers and knows of no tree.
func TestWhatRunAnswersIsTrue(t *testing.T) {
	r, count := chances(183), map[string]int{}
	for range 5000 {
		p := r.problem(r.Intn(4), r.Intn(4))
		s := searched(t, p, 100000)
		isTrue(t, p, s)
		count[senseOf(p)+" "+verdictOf(s.Verdict)]++
	}
	enough(t, 40, count, "min optimal", "max optimal", "min infeasible", "max infeasible", "min unbounded", "max unbounded")
}

// isTrue asks whether what a search says is true of its problem: P18.7.
func isTrue(t *testing.T, p api.Problem, s api.Search) {
	t.Helper()
	verdict, value := truth(p)
	if verdict != s.Verdict {
		t.Fatalf("it is %s %v, of\n%s\nof %s", verdictOf(verdict), value, told(s), shown(p))
	}
	if verdict == api.Infeasible {
		return
	}
	if len(s.X) != len(p.Vars) || !isPoint(p, s.X) || brokenAt(p, s.X) >= 0 {
		t.Fatalf("no whole point, of\n%s\nof %s", told(s), shown(p))
	}
	if verdict == api.Optimal && (value.Cmp(toBig(s.Value)) != 0 || value.Cmp(valueAt(p, s.X)) != 0) {
		t.Fatalf("the value is %v, of\n%s\nof %s", value, told(s), shown(p))
	}
	if verdict == api.Unbounded {
		goesOn(t, p, s)
	}
}

// goesOn asks whether there are whole points along a ray, however far, with values that become better by the same amount with each step.
func goesOn(t *testing.T, p api.Problem, s api.Search) {
	t.Helper()
	for j, v := range p.Vars {
		if v.Whole && toBig(s.Ray[j]).Sign() != 0 {
			t.Fatalf("the ray moves whole variable %d, of\n%s\nof %s", j, told(s), shown(p))
		}
	}
	first, growth := valueAt(p, s.X), objectiveAt(p, s.Ray)
	for _, far := range []string{"0", "1/1000000000", "1", "7/2", "1000", "1000000000000000000000000000000"} {
		step := toBig(num(far))
		var x []api.Rat
		for j := range s.X {
			x = append(x, fromBig(plus(toBig(s.X[j]), times(step, toBig(s.Ray[j])))))
		}
		if !isPoint(p, x) || brokenAt(p, x) >= 0 {
			t.Fatalf("%s steps on there is no whole point, of\n%s\nof %s", far, told(s), shown(p))
		}
		if value := valueAt(p, x); step.Sign() > 0 && !isBetter(p, value, first) || value.Cmp(plus(first, times(step, growth))) != 0 {
			t.Fatalf("%s steps on it isn't better, of\n%s\nof %s", far, told(s), shown(p))
		}
	}
}

// P18.8: a search is stopped at each number of nodes up to one less than are needed, and only there; what it has found till then is the best of the points so far.
func TestEachNumberOfNodes(t *testing.T) {
	r, count := chances(188), map[string]int{}
	for range 700 {
		p := r.problem(r.size())
		all := searched(t, p, 100000)
		if all.Nodes > 25 {
			continue
		}
		var last *big.Rat
		for most := 1; most < all.Nodes; most++ {
			s := searched(t, p, most)
			if s.Verdict != api.Stopped || s.Nodes != most || len(s.Tree)+len(s.Ray) > 0 || told(s) != secondTold(p, most) {
				t.Fatalf("Run(%s, %d):\n%s, want\n%s", shown(p), most, told(s), secondTold(p, most))
			}
			count[kindOf(p, s)]++
			if len(s.X) == 0 {
				if last != nil {
					t.Fatalf("Run(%s, %d): the best point is gone", shown(p), most)
				}
				continue
			}
			value := toBig(s.Value)
			if !isPoint(p, s.X) || brokenAt(p, s.X) >= 0 || valueAt(p, s.X).Cmp(value) != 0 || last != nil && isBetter(p, last, value) {
				t.Fatalf("Run(%s, %d): %s", shown(p), most, told(s))
			}
			last = value
		}
		for _, most := range []int{all.Nodes, all.Nodes + 1, all.Nodes + 1000} {
			if got := told(searched(t, p, most)); got != told(all) {
				t.Fatalf("Run(%s, %d):\n%s, want\n%s", shown(p), most, got, told(all))
			}
		}
	}
	enough(t, 100, count, "min stopped", "max stopped", "min stopped with a point", "max stopped with a point")
}

// P18.8: a problem without whole variables has one node, whatever it comes to: what is solved is a leaf, or the ray's point.
func TestWithoutWholeVariables(t *testing.T) {
	r, count := chances(189), map[string]int{}
	for range 600 {
		p := r.problem(r.size())
		for j := range p.Vars {
			p.Vars[j].Whole = false
		}
		s := searched(t, p, 1)
		if s.Nodes != 1 || s.Verdict == api.Stopped || len(s.Tree) > 1 || told(s) != secondTold(p, 1) {
			t.Fatalf("Run(%s, 1): %s", shown(p), told(s))
		}
		checks(t, p, s, nil)
		count[kindOf(p, s)]++
	}
	enough(t, 20, count, "min optimal", "max optimal", "min infeasible", "max infeasible", "min unbounded", "max unbounded")
}

// anySearch makes a problem and a search: Run's, another one, or one in which something is changed; some problems are open.
func (r chance) anySearch(variables, rows int) (api.Problem, api.Search) {
	p := r.problem(variables, rows)
	s := r.search(p)
	for range r.Intn(3) {
		s = r.nudge(p, s)
	}
	if len(p.Vars) > 0 && r.often(30) {
		p.Vars = slices.Clone(p.Vars)
		p.Vars[r.Intn(len(p.Vars))].Hi.Has = false
	}
	return p, s
}

// P18.4 to P18.6: searches of all kinds are answered as the promises' words say.
func TestSearchesByChance(t *testing.T) {
	r, count := chances(184), map[string]int{}
	for range 3000 {
		p, s := r.anySearch(r.size())
		got, want := branch.Check(p, s), secondCheck(p, s)
		if got != want {
			t.Fatalf("%s, want %s, of\n%s\nof %s", errorOf(got), errorOf(want), told(s), shown(p))
		}
		count[verdictOf(s.Verdict)+" "+errorOf(got)]++
	}
	for _, name := range []string{"nil", "ErrOpen", "ErrShape", "ErrPoint", "ErrWhole", "ErrValue", "ErrTree", "ErrVerdict", "ErrBound"} {
		enough(t, 25, count, "optimal "+name)
	}
	for _, name := range []string{"nil", "ErrOpen", "ErrShape", "ErrTree", "ErrVerdict", "ErrBound"} {
		enough(t, 5, count, "infeasible "+name)
	}
	for _, name := range []string{"nil", "ErrShape", "ErrPoint", "ErrWhole", "ErrRay"} {
		enough(t, 5, count, "unbounded "+name)
	}
	enough(t, 20, count, "stopped ErrVerdict", "0 ErrVerdict", "-1 ErrVerdict")
}

// P18.7, T8: what Check accepts is true, whoever made it.
func TestWhatIsAcceptedIsTrue(t *testing.T) {
	r, count := chances(187), map[string]int{}
	for range 4000 {
		p, s := r.anySearch(r.Intn(4), r.Intn(3))
		if branch.Check(p, s) != nil {
			continue
		}
		isTrue(t, p, s)
		kind := senseOf(p) + " " + verdictOf(s.Verdict)
		count[kind]++
		if want, _ := secondRun(p, 1000); told(want) != told(s) {
			count[kind+" of another's"]++
		}
	}
	for _, sense := range []string{"min ", "max "} {
		for _, verdict := range []string{"optimal", "infeasible", "unbounded"} {
			enough(t, 50, count, sense+verdict, sense+verdict+" of another's")
		}
	}
}

// P18.7: that something is better, or is there at all, is never proven away: trees for what isn't true are refused, however they are grown.
func TestWhatIsNotTrueIsRefused(t *testing.T) {
	r, count := chances(186), map[string]int{}
	for range 1000 {
		p := r.problem(r.Intn(4), r.Intn(3))
		verdict, value := truth(p)
		s := r.claimed(p)
		isRight := s.Verdict == verdict && (verdict == api.Infeasible || isPoint(p, s.X) && value.Cmp(toBig(s.Value)) == 0)
		err := branch.Check(p, s)
		if (err == nil) != isRight {
			t.Fatalf("%s, but it is %s %v, of\n%s\nof %s", errorOf(err), verdictOf(verdict), value, told(s), shown(p))
		}
		count[verdictOf(s.Verdict)+" "+errorOf(err)]++
	}
	enough(t, 20, count, "optimal nil", "optimal ErrPoint", "optimal ErrBound", "infeasible nil", "infeasible ErrVerdict")
}

// otherForm gives the same problem, its numbers told otherwise, terms split in two, with terms of no variable between them, and other names.
func (r chance) otherForm(p api.Problem) api.Problem {
	again := func(a api.Rat) api.Rat { return r.anyForm(toBig(a)) }
	bound := func(b api.Bound) api.Bound {
		if !b.Has {
			return api.Bound{At: r.number()}
		}
		return api.Bound{Has: true, At: again(b.At)}
	}
	c := api.Problem{Max: p.Max, Name: "other", Const: again(p.Const)}
	for _, v := range p.Vars {
		c.Vars = append(c.Vars, api.Var{Name: "x", Obj: again(v.Obj), Lo: bound(v.Lo), Hi: bound(v.Hi), Whole: v.Whole})
	}
	for _, row := range p.Rows {
		other := api.Row{Name: "x", Lo: bound(row.Lo), Hi: bound(row.Hi)}
		for _, term := range row.Terms {
			part := r.number()
			other.Terms = append(other.Terms, api.Term{Var: term.Var, Coef: part}, api.Term{Var: -1 - r.Intn(3), Coef: r.number()}, api.Term{Var: term.Var, Coef: r.anyForm(minus(toBig(term.Coef), toBig(part)))}, api.Term{Var: len(p.Vars) + r.Intn(3), Coef: r.number()})
		}
		c.Rows = append(c.Rows, other)
	}
	return c
}

// otherTelling gives the same search, its numbers told otherwise.
func (r chance) otherTelling(s api.Search) api.Search {
	s.Value, s.X, s.Ray, s.Tree = r.anyForm(toBig(s.Value)), r.anyForms(s.X), r.anyForms(s.Ray), slices.Clone(s.Tree)
	for k := range s.Tree {
		n := &s.Tree[k]
		n.At = r.anyWhole(toBigInt(n.At))
		n.Cert.Value, n.Cert.X, n.Cert.Y, n.Cert.Ray = r.anyForm(toBig(n.Cert.Value)), r.anyForms(n.Cert.X), r.anyForms(n.Cert.Y), r.anyForms(n.Cert.Ray)
	}
	return s
}

// R5, R6: what counts is the numbers, not how they are told; terms of one variable add up, those of no variable don't count.
func TestOtherForms(t *testing.T) {
	r, count := chances(185), map[string]int{}
	for range 1000 {
		p, s := r.anySearch(r.size())
		q := r.otherForm(p)
		want := branch.Check(p, s)
		checks(t, q, r.otherTelling(s), want)
		count[errorOf(want)]++
		if want == api.ErrOpen {
			refuses(t, q, 9, api.ErrOpen)
			continue
		}
		if got, want := told(searched(t, q, 50)), told(searched(t, p, 50)); got != want {
			t.Fatalf("Run(%s, 50):\n%s, want\n%s", shown(q), got, want)
		}
	}
	enough(t, 15, count, "nil", "ErrOpen", "ErrShape", "ErrPoint", "ErrWhole", "ErrValue", "ErrTree", "ErrVerdict", "ErrBound")
}

// P18.6: nodes that aren't reached aren't looked at, nor are Nodes, nor a split node's Cert, nor where a leaf would be split.
func TestWhatIsNotLookedAt(t *testing.T) {
	r, count := chances(181), map[string]int{}
	for range 1500 {
		p, s := r.anySearch(r.size())
		want := branch.Check(p, s)
		s.Nodes = r.Intn(1000) - 500
		if secondLeaves(p, s.Tree) != nil {
			s.Tree = r.strewn(s.Tree)
			for k := range s.Tree {
				if s.Tree[k].Split {
					s.Tree[k].Cert = r.junk()
				}
			}
		}
		checks(t, p, s, want)
		count[errorOf(want)]++
	}
	enough(t, 15, count, "nil", "ErrOpen", "ErrShape", "ErrPoint", "ErrWhole", "ErrValue", "ErrTree", "ErrVerdict", "ErrBound")
}

package trim_test

import (
	"slices"
	"strings"
	"testing"

	"vertex/api"
	"vertex/back"
	"vertex/check"
	"vertex/model"
	"vertex/trim"
)

// kinds counts what happened to a problem.
func kinds(count map[string]int, p api.Problem, s *second) {
	if s.passes > 3 {
		count[senseOf(p)+" many passes"]++
	}
	for _, e := range s.log {
		kind := e.kind
		if e.isRow && e.variable >= 0 {
			kind += map[int]string{-1: " below", 1: " above"}[s.coefs[e.place][e.variable].Sign()]
			kind += map[bool]string{true: " Lo"}[e.gaveLo] + map[bool]string{true: " Hi"}[e.gaveHi]
		}
		count[senseOf(p)+" "+kind]++
	}
	for kind, n := range s.stuck {
		count[senseOf(p)+" stuck: "+kind] += n
	}
}

// allKinds are what is to be seen among many problems.
func allKinds() (l []string) {
	for _, sense := range []string{"min ", "max "} {
		for _, kind := range strings.Split("many passes,a row without terms,a fixed variable in a row,a fixed variable in no row,a variable at its Lo,a variable at its Hi,a variable at 0,stuck: a row without terms,stuck: a row with one term,stuck: a crossed variable,stuck: a variable without its best bound", ",") {
			l = append(l, sense+kind)
		}
		for _, gave := range []string{"", " Lo", " Hi", " Lo Hi"} {
			l = append(l, sense+"a row with one term above"+gave, sense+"a row with one term below"+gave)
		}
	}
	return l
}

// P15.1 to P15.5: problems and certificates of all kinds are answered as the chapter's words say; and it is by the numbers, not by how they are told.
func TestProblemsByChance(t *testing.T) {
	r, count := chances(15), map[string]int{}
	for range 9000 {
		p, _ := r.problem()
		u, s := trim.Of(p), secondOf(p)
		want := s.problem()
		if got := u.Problem(); told(got) != told(want) || u.Steps() != len(s.log) {
			t.Fatalf("%s, %d steps, want\n%s, %d\nof %s", told(got), u.Steps(), told(want), len(s.log), told(p))
		}
		kinds(count, p, s)
		other := trim.Of(r.otherForm(p))
		if got := other.Problem(); told(got) != told(want) || other.Steps() != len(s.log) {
			t.Fatalf("told otherwise: %s, %d steps, want\n%s, %d\nof %s", told(got), other.Steps(), told(want), len(s.log), told(p))
		}
		for range 5 {
			c := r.cert(want)
			wantCert := toldCert(s.cert(c))
			if got := toldCert(u.Cert(c)); got != wantCert {
				t.Fatalf("%s is brought to\n%s, want\n%s\nof %s", toldCert(c), got, wantCert, told(p))
			}
			if got := toldCert(other.Cert(c)); got != wantCert {
				t.Fatalf("told otherwise: %s is brought to\n%s, want\n%s\nof %s", toldCert(c), got, wantCert, told(p))
			}
		}
	}
	enough(t, 30, count, allKinds()...)
}

// certsOf makes certificates that are accepted of a problem: of the simplex method, begun at several orders, with a number changed where that is accepted too, and, of crossed bounds, with any multipliers.
func (r chance) certsOf(t *testing.T, q api.Problem) (l []api.Cert) {
	c := back.Solve(q)
	l = append(l, c, r.solved(q), r.solved(q))
	anyhow := api.Cert{Verdict: api.Infeasible, Y: r.numbers(len(q.Rows))}
	for _, other := range []api.Cert{r.nudged(c), r.nudged(l[1]), anyhow} {
		if check.Check(q, other) == nil {
			l = append(l, other)
		}
	}
	for _, c := range l {
		if !isProof(q, c) {
			t.Fatalf("%s is no certificate\nof %s", toldCert(c), told(q))
		}
	}
	return l
}

// P15.6: certificates of what is left are brought back to such of the whole, by the checker and by the problem's own rows and bounds; verdict and value are the same.
func TestCertificatesComeBack(t *testing.T) {
	r, count := chances(156), map[string]int{}
	for range 4000 {
		p, _ := r.problem()
		u := trim.Of(p)
		q := u.Problem()
		whole := back.Solve(p)
		for _, c := range r.certsOf(t, q) {
			b := u.Cert(c)
			if !isProof(p, b) || check.Check(p, b) != nil {
				t.Fatalf("%s is brought to\n%s: %v\nof %s", toldCert(c), toldCert(b), check.Check(p, b), told(p))
			}
			if b.Verdict != whole.Verdict || b.Verdict != c.Verdict || toBig(b.Value).Cmp(toBig(whole.Value)) != 0 {
				t.Fatalf("%s is brought to\n%s, but it is\n%s\nof %s", toldCert(c), toldCert(b), toldCert(whole), told(p))
			}
			kind := senseOf(p) + " " + verdictOf(b.Verdict)
			if isBorne(secondOf(p), b) {
				count[kind+" borne by rows that went"]++
			}
			count[kind+map[bool]string{true: " of something left"}[len(q.Vars) > 0 && u.Steps() > 0]]++
		}
	}
	for _, sense := range []string{"min ", "max "} {
		enough(t, 100, count, sense+"optimal", sense+"optimal of something left", sense+"infeasible of something left", sense+"unbounded of something left", sense+"optimal borne by rows that went", sense+"infeasible borne by rows that went")
	}
}

// isBorne tells whether a row that went has a multiplier that isn't nought.
func isBorne(s *second, c api.Cert) bool {
	return slices.ContainsFunc(s.log, func(e event) bool {
		return e.isRow && e.place < len(c.Y) && toBig(c.Y[e.place]).Sign() != 0
	})
}

// restricted gives what stands at the variables that are there, which are known by their names.
func restricted(p, q api.Problem, x []api.Rat) (l []api.Rat) {
	for _, left := range q.Vars {
		l = append(l, x[slices.IndexFunc(p.Vars, func(v api.Var) bool { return v.Name == left.Name })])
	}
	return l
}

// P15.7: points of what is left hold in the whole, with the same value; points of the whole hold in what is left, and are no worse there.
func TestPointsComeBack(t *testing.T) {
	r, count := chances(157), map[string]int{}
	for range 2000 {
		p, x := r.problem()
		u := trim.Of(p)
		q := u.Problem()
		if u.Steps() == 0 {
			continue
		}
		for _, point := range append(r.points(q), restricted(p, q, x)) {
			if !isPoint(q, point) {
				continue
			}
			value := valueAt(q, point)
			b := u.Cert(api.Cert{Verdict: api.Optimal, Value: fromBig(value), X: point}).X
			if !isPoint(p, b) || valueAt(p, b).Cmp(value) != 0 || !model.Holds(p, b) {
				t.Fatalf("%s of value %v is brought to%s\nof %s", numbersOf(point), value, numbersOf(b), told(p))
			}
			count["back "+senseOf(p)]++
		}
		for _, point := range append(r.points(p), x) {
			if !isPoint(p, point) {
				continue
			}
			there := restricted(p, q, point)
			value, before := valueAt(q, there), valueAt(p, point)
			if !isPoint(q, there) || isBetter(p, before, value) {
				t.Fatalf("%s of value %v leaves%s, %v\nof %s", numbersOf(point), before, numbersOf(there), value, told(p))
			}
			count["there "+senseOf(p)+map[bool]string{true: " better"}[isBetter(p, value, before)]]++
		}
	}
	enough(t, 300, count, "back min", "back max", "there min", "there max", "there min better", "there max better")
}

// P15.8: what is left isn't trimmed any more, and is smaller by as much as there were steps.
func TestNothingMore(t *testing.T) {
	r, count := chances(158), map[string]int{}
	for range 6000 {
		p, _ := r.problem()
		u := trim.Of(p)
		q := u.Problem()
		stays(t, q)
		if more := len(p.Vars) + len(p.Rows) - len(q.Vars) - len(q.Rows); more != u.Steps() {
			t.Errorf("%d steps, but %d went", u.Steps(), more)
		}
		if told(model.Tidy(q)) != told(q) {
			t.Errorf("%s isn't its own Tidy", told(q))
		}
		// Where nothing was done, a certificate comes back as it was.
		c := r.solved(q)
		if got := toldCert(trim.Of(q).Cert(c)); got != toldCert(c) {
			t.Errorf("%s, want %s", got, toldCert(c))
		}
		if len(q.Vars) > 0 && len(q.Rows) > 0 {
			count["something left"]++
		}
		if u.Steps() > 0 {
			count["something went"]++
		}
		if t.Failed() {
			t.Fatal("of", told(p))
		}
	}
	enough(t, 1000, count, "something left", "something went")
}

// Max and Min with Const and Objs turned are the same problem told otherwise: the same goes, and the multipliers turn, but not those of the Infeasible verdict.
func TestOtherSense(t *testing.T) {
	r := chances(159)
	turned := func(a api.Rat) api.Rat { return fromBig(turn(toBig(a))) }
	turnedAll := func(l []api.Rat) (all []api.Rat) {
		for _, a := range l {
			all = append(all, turned(a))
		}
		return all
	}
	other := func(p api.Problem) api.Problem {
		p.Max, p.Const, p.Vars = !p.Max, turned(p.Const), slices.Clone(p.Vars)
		for j := range p.Vars {
			p.Vars[j].Obj = turned(p.Vars[j].Obj)
		}
		return p
	}
	for range 4000 {
		p, _ := r.problem()
		u, v := trim.Of(p), trim.Of(other(p))
		if got, want := told(v.Problem()), told(other(u.Problem())); got != want || u.Steps() != v.Steps() {
			t.Fatalf("%s, %d steps, want\n%s, %d", got, v.Steps(), want, u.Steps())
		}
		c := r.cert(u.Problem())
		d, want := c, u.Cert(c)
		if c.Verdict == api.Optimal {
			d.Y, want.Y = turnedAll(c.Y), turnedAll(want.Y)
		}
		if got := v.Cert(d); toldCert(got) != toldCert(want) {
			t.Fatalf("%s, want\n%s\nof %s", toldCert(got), toldCert(want), told(p))
		}
	}
}

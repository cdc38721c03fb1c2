package check_test

import (
	"math/big"
	"testing"

	"vertex/api"
	"vertex/back"
	"vertex/check"
)

// size makes how many variables and rows a problem has; most are small.
func (r chance) size() (variables, rows int) { return r.Intn(5), r.Intn(5) }

// allAnswers are what Check answers of each verdict, to be seen among many pairs.
func allAnswers() (l []string) {
	for _, sense := range []string{"min ", "max "} {
		for _, answer := range []string{"nil", "ErrShape", "ErrPoint", "ErrValue", "ErrBound"} {
			l = append(l, sense+"optimal "+answer)
		}
		for _, answer := range []string{"nil", "ErrShape", "ErrBound"} {
			l = append(l, sense+"infeasible "+answer)
		}
		for _, answer := range []string{"nil", "ErrShape", "ErrPoint", "ErrRay"} {
			l = append(l, sense+"unbounded "+answer)
		}
		l = append(l, sense+"0 ErrVerdict", sense+"4 ErrVerdict", sense+"-1 ErrVerdict")
	}
	return l
}

// P14.1, P14.4: pairs of all kinds are answered as the promises' words say.
func TestPairsByChance(t *testing.T) {
	r, count := chances(14), map[string]int{}
	for range 20000 {
		p, c := r.pair(r.size())
		got, want := check.Check(p, c), secondCheck(p, c)
		if got != want {
			t.Fatalf("%s, want %s, of %s\nof %s", errorOf(got), errorOf(want), told(c), shown(p))
		}
		count[senseOf(p)+" "+verdictOf(c.Verdict)+" "+errorOf(got)]++
		sum, err := secondProve(p, c.Y)
		wantProven := errorOf(err)
		if err == nil {
			wantProven = numberOf(fromBig(sum))
			count["proven "+senseOf(p)]++
		}
		if got := provenOf(t, p, c.Y); got != wantProven {
			t.Fatalf("Prove by %s: %s, want %s\nof %s", numbersOf(c.Y), got, wantProven, shown(p))
		}
	}
	enough(t, 60, count, allAnswers()...)
	enough(t, 1000, count, "proven min", "proven max")
}

// isBetter tells whether a value is better than another one.
func isBetter(p api.Problem, a, than *big.Rat) bool {
	if p.Max {
		return a.Cmp(than) > 0
	}
	return a.Cmp(than) < 0
}

// closeAll gives a far bound to all that has none: then multipliers of all kinds prove something.
func closeAll(p api.Problem) {
	for k, b := range boundsOf(p) {
		if !b.lo.Has {
			b.lo = has("-30")
		}
		if !b.hi.Has {
			b.hi = has("30")
		}
		setBounds(p, k, b)
	}
}

// P14.2: what multipliers prove no point passes: the best one doesn't, be it known by elimination, nor do others.
func TestNothingIsBetterThanProven(t *testing.T) {
	r, count := chances(142), map[string]int{}
	for range 8000 {
		p, c := r.pair(r.Intn(3), r.Intn(4))
		if r.Intn(2) == 0 {
			closeAll(p)
		}
		proven, err := check.Prove(p, c.Y)
		if err != nil {
			continue
		}
		verdict, value := truth(p)
		if verdict == api.Unbounded || verdict == api.Optimal && isBetter(p, value, toBig(proven)) {
			t.Fatalf("by %s %s is proven, but it is %s %v\nof %s", numbersOf(c.Y), numberOf(proven), verdictOf(verdict), value, shown(p))
		}
		if verdict == api.Optimal {
			count[senseOf(p)+map[bool]string{false: " and less", true: " and just that"}[value.Cmp(toBig(proven)) == 0]]++
		}
		for range 20 {
			if x := r.numbers(len(p.Vars)); isPoint(p, x) && isBetter(p, valueAt(p, x), toBig(proven)) {
				t.Fatalf("by %s %s is proven, but %s is a point\nof %s", numbersOf(c.Y), numberOf(proven), numbersOf(x), shown(p))
			}
		}
	}
	enough(t, 200, count, "min and less", "min and just that", "max and less", "max and just that")
}

// P14.5, T3: what Check accepts is true, by a way that knows of no multipliers and no rays.
func TestWhatIsAcceptedIsTrue(t *testing.T) {
	r, count := chances(145), map[string]int{}
	for range 12000 {
		p, c := r.pair(r.Intn(3), r.Intn(4))
		if check.Check(p, c) != nil {
			continue
		}
		verdict, value := truth(p)
		if verdict != c.Verdict || verdict == api.Optimal && value.Cmp(toBig(c.Value)) != 0 {
			t.Fatalf("%s is accepted, but it is %s %v\nof %s", told(c), verdictOf(verdict), value, shown(p))
		}
		if verdict != api.Infeasible && !isPoint(p, c.X) || verdict == api.Optimal && valueAt(p, c.X).Cmp(value) != 0 {
			t.Fatalf("the point of %s is accepted\nof %s", told(c), shown(p))
		}
		if verdict == api.Unbounded {
			goesOn(t, p, c)
		}
		count[senseOf(p)+" "+verdictOf(verdict)]++
	}
	enough(t, 200, count, "min optimal", "max optimal", "min infeasible", "max infeasible", "min unbounded", "max unbounded")
}

// goesOn asks whether points hold along a ray, however far, with values that pass every bound: by the same amount with each step.
func goesOn(t *testing.T, p api.Problem, c api.Cert) {
	t.Helper()
	last := valueAt(p, c.X)
	for _, far := range []string{"0", "1/1000000000", "1", "7/2", "1000", "1000000000000000000000000000000"} {
		step := toBig(num(far))
		var x []api.Rat
		for j := range c.X {
			x = append(x, fromBig(plus(toBig(c.X[j]), times(step, toBig(c.Ray[j])))))
		}
		if !isPoint(p, x) {
			t.Fatalf("%s of %s steps isn't a point\nof %s", far, told(c), shown(p))
		}
		if value := valueAt(p, x); step.Sign() > 0 && !isBetter(p, value, last) {
			t.Fatalf("%s of %s steps isn't better\nof %s", far, told(c), shown(p))
		} else {
			last = value
		}
	}
}

// T2: what the simplex method certifies is accepted, and of another verdict or value it isn't.
func TestWhatIsSolvedIsAccepted(t *testing.T) {
	r, count := chances(146), map[string]int{}
	for range 3000 {
		p := r.problem(r.Intn(7), r.Intn(7))
		c := back.Solve(p)
		checks(t, p, c, nil)
		count[senseOf(p)+" "+verdictOf(c.Verdict)]++
		wrong := r.filled(c)
		wrong.X, wrong.Ray, wrong.Y = r.numbers(len(p.Vars)), r.numbers(len(p.Vars)), r.numbers(len(p.Rows))
		for verdict := range 5 {
			wrong.Verdict = verdict
			if err := check.Check(p, wrong); verdict != c.Verdict && err == nil {
				t.Fatalf("%s is accepted, but it is %s\nof %s", told(wrong), told(c), shown(p))
			}
		}
		if c.Verdict == api.Optimal {
			c.Value = fromBig(plus(toBig(c.Value), by(big.NewRat(1, 1), big.NewRat(1<<62, 1))))
			checks(t, p, c, api.ErrValue)
		}
	}
	enough(t, 100, count, "min optimal", "max optimal", "min infeasible", "max infeasible", "min unbounded", "max unbounded")
}

// P14.6: in the other sense, with Value and, of an optimal one, Y negated, all is answered as it was; and so it is with rows multiplied.
func TestOtherSenseAndRowsMultiplied(t *testing.T) {
	r, count := chances(147), map[string]int{}
	for range 6000 {
		p, c := r.pair(r.size())
		want := check.Check(p, c)
		turnedCert := c
		turnedCert.Value = turned(c.Value)
		if c.Verdict == api.Optimal {
			turnedCert.Y = turnedAll(c.Y)
		}
		checks(t, otherSense(p), turnedCert, want)
		q, scaled := r.multiplied(p, c)
		checks(t, q, scaled, want)
		count[senseOf(p)+" "+verdictOf(c.Verdict)+" "+errorOf(want)]++
	}
	enough(t, 15, count, allAnswers()...)
}

// P14.6 by P14.1: in the other sense, with y negated, the number is negated; with rows multiplied, and their multipliers divided, it is the same.
func TestProveInTheOtherSenseAndRowsMultiplied(t *testing.T) {
	r, count := chances(148), map[string]int{}
	for range 4000 {
		p, c := r.pair(r.size())
		want := provenOf(t, p, c.Y)
		q, scaled := r.multiplied(p, c)
		proves(t, q, scaled.Y, want)
		if proven, err := check.Prove(p, c.Y); err == nil {
			want = numberOf(turned(proven))
		}
		proves(t, otherSense(p), turnedAll(c.Y), want)
		count[map[bool]string{true: want, false: "a number"}[want == "ErrShape" || want == "ErrBound"]]++
	}
	enough(t, 150, count, "a number", "ErrShape", "ErrBound")
}

// R5, R6, P14.3: what counts is the numbers, not how they are told; terms of one variable add up, those of no variable don't count; Whole isn't asked, nor are names.
func TestOtherForms(t *testing.T) {
	r, count := chances(149), map[string]int{}
	for range 4000 {
		p, c := r.pair(r.size())
		q, again := r.otherForm(p), c
		again.Value = r.anyForm(toBig(c.Value))
		for _, l := range []*[]api.Rat{&again.X, &again.Y, &again.Ray} {
			*l = r.anyForms(*l)
		}
		want := check.Check(p, c)
		checks(t, q, again, want)
		proves(t, q, again.Y, provenOf(t, p, c.Y))
		count[senseOf(p)+" "+verdictOf(c.Verdict)+" "+errorOf(want)]++
	}
	enough(t, 10, count, allAnswers()...)
}

// P14.4: fields that aren't named are not looked at, whatever stands there.
func TestFieldsThatAreNotNamed(t *testing.T) {
	r, count := chances(150), map[string]int{}
	for range 4000 {
		p, c := r.pair(r.size())
		want := check.Check(p, c)
		checks(t, p, r.filled(c), want)
		bare := api.Cert{Verdict: c.Verdict}
		switch c.Verdict {
		case api.Optimal:
			bare.Value, bare.X, bare.Y = c.Value, c.X, c.Y
		case api.Infeasible:
			bare.Y = c.Y
		case api.Unbounded:
			bare.X, bare.Ray = c.X, c.Ray
		}
		checks(t, p, bare, want)
		count[senseOf(p)+" "+verdictOf(c.Verdict)+" "+errorOf(want)]++
	}
	enough(t, 10, count, allAnswers()...)
}

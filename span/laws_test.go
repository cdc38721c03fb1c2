package span_test

import (
	"math/big"
	"slices"
	"testing"

	"vertex/api"
	"vertex/back"
	"vertex/climb"
	"vertex/span"
	"vertex/warm"
)

// shares tells how a row is met with: whether the standard has rows that say what others do, and whether this one is among them.
func (q second) shares(i int) string {
	gone := len(q.s.B) > len(q.columns)
	switch {
	case gone && q.units[i] == nil:
		return "a row on which one that is gone hangs"
	case gone:
		return "a row on which none that is gone hangs"
	}
	return "no row is gone"
}

// costsAsTold asks for the spans of all columns, and of such as aren't there, as the promises' words say.
func costsAsTold(t *testing.T, s api.Standard, basis []int, count map[string]int) {
	t.Helper()
	q, why := secondOf(s, basis)
	for j := -1; j <= len(s.C); j++ {
		want := "ErrArg"
		if 0 <= j && j < len(s.C) {
			want = "ErrState"
			if why == "" {
				x := q.cost(j)
				want = x.told()
				count[map[bool]string{true: "basic ", false: "not basic "}[slices.Contains(basis, j)]+x.kind()]++
			}
		}
		if got := ends(span.Cost(s, basis, j)); got != want {
			t.Fatalf("Cost of %v, %v, %d: %s, want %s", s, basis, j, got, want)
		}
	}
}

// rightsAsTold asks for the spans of all rows, and of such as aren't there, and for the values at right sides by chance, likewise.
func rightsAsTold(t *testing.T, r chance, s api.Standard, basis []int, count map[string]int) {
	t.Helper()
	q, why := secondOf(s, basis)
	for i := -1; i <= len(s.B); i++ {
		want, wantAt, right := "ErrArg", "ErrArg", r.small()
		if 0 <= i && i < len(s.B) {
			want, wantAt = "ErrState", "ErrState"
			if why == "" {
				x := q.right(i)
				want, wantAt = x.told(), "ErrArg"
				if right = r.somewhere(x); x.has(right) {
					wantAt = q.at(i, right).RatString()
				}
				count[q.shares(i)]++
				count[map[bool]string{true: "turned ", false: "not turned "}[toBig(s.B[i]).Sign() < 0]+x.kind()]++
			}
		}
		if got := ends(span.Right(s, basis, i)); got != want {
			t.Fatalf("Right of %v, %v, %d: %s, want %s", s, basis, i, got, want)
		}
		if got := value(span.At(s, basis, i, r.anyForm(right))); got != wantAt {
			t.Fatalf("At of %v, %v, %d, %s: %s, want %s", s, basis, i, right.RatString(), got, wantAt)
		}
	}
}

// P17.1 to P17.6: standards and lists of all kinds are answered as the promises' words say.
func TestSpansByChance(t *testing.T) {
	r, count := chances(17), map[string]int{}
	for range 8000 {
		s := r.standard(4, 6)
		basis := r.columns(s)
		_, why := secondOf(s, basis)
		count["no state: "+why]++
		costsAsTold(t, s, basis, count)
		rightsAsTold(t, r, s, basis, count)
	}
	enough(t, 50, count, "no state: ", "no state: nothing meets it", "no state: too many columns", "no state: too few columns", "no state: a right side", "no state: a cost")
	enough(t, 50, count, "basic lo", "basic hi", "basic both ends", "basic no end", "basic ends that touch", "not basic lo")
	enough(t, 50, count, "turned lo", "turned hi", "turned both ends", "turned ends that touch", "not turned lo", "not turned hi", "not turned both ends", "not turned ends that touch")
	enough(t, 50, count, "no row is gone", "a row on which one that is gone hangs", "a row on which none that is gone hangs")
}

// somewhere makes a number within a reach, at its ends, or beyond.
func (r chance) somewhere(x reach) *big.Rat {
	l := append(r.within(x), r.beyond(x)...)
	return l[r.Intn(len(l))]
}

// withRight is a standard with another right side, withCost one with another cost.
func (r chance) withRight(s api.Standard, i int, right *big.Rat) api.Standard {
	s.B = slices.Clone(s.B)
	s.B[i] = r.anyForm(right)
	return s
}

func (r chance) withCost(s api.Standard, j int, cost *big.Rat) api.Standard {
	s.C = slices.Clone(s.C)
	s.C[j] = r.anyForm(cost)
	return s
}

// reachOf are two bounds as a reach.
func reachOf(lo, hi api.Bound) (x reach) {
	if lo.Has {
		x.lo = toBig(lo.At)
	}
	if hi.Has {
		x.hi = toBig(hi.At)
	}
	return x
}

// P17.4, P17.9: at right sides within the span and at its ends the list is a state, with the same span; beyond them, if only by a hair, it is none.
func TestRightSidesWithinAndBeyond(t *testing.T) {
	r, count := chances(179), map[string]int{}
	for range 500 {
		s, basis := r.state(4, 6)
		for i := range s.B {
			lo, hi, err := span.Right(s, basis, i)
			x := reachOf(lo, hi)
			if err != nil || !x.has(toBig(s.B[i])) {
				t.Fatalf("Right of %v, %v, %d: %s", s, basis, i, ends(lo, hi, err))
			}
			for _, right := range r.within(x) {
				c := r.withRight(s, i, right)
				if _, why := secondOf(c, basis); why != "" || ends(span.Right(c, basis, i)) != x.told() {
					t.Fatalf("%v, %v, row %d at %s: no state: %s; %s, want %s", s, basis, i, right.RatString(), why, ends(span.Right(c, basis, i)), x.told())
				}
				count["within"]++
			}
			for _, right := range r.beyond(x) {
				c := r.withRight(s, i, right)
				if _, why := secondOf(c, basis); why == "" || ends(span.Right(c, basis, i)) != "ErrState" {
					t.Fatalf("%v, %v, row %d at %s: still a state: %s", s, basis, i, right.RatString(), ends(span.Right(c, basis, i)))
				}
				count["beyond"]++
			}
		}
	}
	enough(t, 1000, count, "within", "beyond")
}

// P17.2, P17.9: so with costs.
func TestCostsWithinAndBeyond(t *testing.T) {
	r, count := chances(1792), map[string]int{}
	for range 500 {
		s, basis := r.state(4, 6)
		for j := range s.C {
			lo, hi, err := span.Cost(s, basis, j)
			x := reachOf(lo, hi)
			if err != nil || !x.has(toBig(s.C[j])) {
				t.Fatalf("Cost of %v, %v, %d: %s", s, basis, j, ends(lo, hi, err))
			}
			for _, cost := range r.within(x) {
				c := r.withCost(s, j, cost)
				if _, why := secondOf(c, basis); why != "" || ends(span.Cost(c, basis, j)) != x.told() {
					t.Fatalf("%v, %v, column %d at %s: no state: %s; %s, want %s", s, basis, j, cost.RatString(), why, ends(span.Cost(c, basis, j)), x.told())
				}
				count["within"]++
			}
			for _, cost := range r.beyond(x) {
				c := r.withCost(s, j, cost)
				if _, why := secondOf(c, basis); why == "" || ends(span.Cost(c, basis, j)) != "ErrState" {
					t.Fatalf("%v, %v, column %d at %s: still a state: %s", s, basis, j, cost.RatString(), ends(span.Cost(c, basis, j)))
				}
				count["beyond"]++
			}
		}
	}
	enough(t, 1000, count, "within", "beyond")
}

// P17.6, P17.9: At is the least value, found by going through all points that may be least, whichever right side of the span the standard has; beyond the span it is an error.
func TestAtIsTheLeastValue(t *testing.T) {
	r, count := chances(176), map[string]int{}
	for range 300 {
		s, basis := r.state(3, 5)
		for i := range s.B {
			lo, hi, _ := span.Right(s, basis, i)
			x := reachOf(lo, hi)
			numbers := append(r.within(x), toBig(s.B[i]))
			for _, right := range numbers {
				want := least(r.withRight(s, i, right))
				for _, own := range append(r.within(x)[:1], toBig(s.B[i]), right) {
					if got := value(span.At(r.withRight(s, i, own), basis, i, r.anyForm(right))); want == nil || got != want.RatString() {
						t.Fatalf("At of %v, %v, %d, %s, where it is %s: %s, want %v", s, basis, i, right.RatString(), own.RatString(), got, want)
					}
				}
				count["within"]++
			}
			for _, right := range r.beyond(x) {
				if got := value(span.At(s, basis, i, r.anyForm(right))); got != "ErrArg" {
					t.Fatalf("At of %v, %v, %d, %s: %s, want ErrArg", s, basis, i, right.RatString(), got)
				}
				count["beyond"]++
			}
		}
	}
	enough(t, 1000, count, "within", "beyond")
}

// P17.9: At goes along a line: between two right sides it lies between in the same measure.
func TestAtGoesAlongALine(t *testing.T) {
	r, count := chances(1793), 0
	for range 1000 {
		s, basis := r.state(4, 6)
		for i := range s.B {
			lo, hi, _ := span.Right(s, basis, i)
			numbers := r.within(reachOf(lo, hi))
			a, b := numbers[0], numbers[len(numbers)-1]
			share := big.NewRat(int64(r.Intn(100)), 99)
			if share.Cmp(whole(1)) > 0 {
				share = whole(1)
			}
			between := func(a, b *big.Rat) *big.Rat { return plus(a, times(share, minus(b, a))) }
			var values []*big.Rat
			for _, right := range []*big.Rat{a, b, between(a, b)} {
				v, err := span.At(s, basis, i, r.anyForm(right))
				if err != nil {
					t.Fatalf("At of %v, %v, %d, %s: %v", s, basis, i, right.RatString(), err)
				}
				values = append(values, toBig(v))
			}
			if between(values[0], values[1]).Cmp(values[2]) != 0 {
				t.Fatalf("At of %v, %v, %d: from %s to %s %v", s, basis, i, a.RatString(), b.RatString(), values)
			}
			if a.Cmp(b) != 0 {
				count++
			}
		}
	}
	if count < 500 {
		t.Errorf("only %d spans", count)
	}
}

// T9: the least value as a function of a right side is convex: told by the states of three right sides, wherever they are, the middle one isn't above the line between the others.
func TestLeastValueIsConvex(t *testing.T) {
	r, count := chances(1794), map[string]int{}
	for range 3000 {
		s, _ := r.state(4, 6)
		if len(s.B) == 0 {
			continue
		}
		i := r.Intn(len(s.B))
		mid := toBig(s.B[i])
		down, up := big.NewRat(int64(1+r.Intn(9)), 3), big.NewRat(int64(1+r.Intn(9)), 3)
		var values []*big.Rat
		for _, right := range []*big.Rat{minus(mid, down), mid, plus(mid, up)} {
			c := r.withRight(s, i, right)
			if o := climb.Run(c); o.Verdict == api.Optimal {
				v, err := span.At(c, o.Basis, i, c.B[i])
				if err != nil || toBig(v).Cmp(toBig(o.Value)) != 0 {
					t.Fatalf("At of %v, %v, %d: %s, want %s", c, o.Basis, i, value(v, err), numberOf(o.Value))
				}
				values = append(values, toBig(v))
			}
		}
		if len(values) < 3 {
			continue
		}
		line := plus(values[0], times(by(down, plus(down, up)), minus(values[2], values[0])))
		if values[1].Cmp(line) > 0 {
			t.Fatalf("%v, row %d: %v", s, i, values)
		}
		count[map[bool]string{true: "on the line", false: "below it"}[values[1].Cmp(line) == 0]]++
	}
	enough(t, 100, count, "on the line", "below it")
}

// Words: what climb.Run answers as Basis of an optimal outcome is a state, and so is warm.Run's, wherever that began.
func TestBasesOfOptimalOutcomesAreStates(t *testing.T) {
	r, count := chances(171), map[string]int{}
	for range 1500 {
		s := r.standard(6, 9)
		for _, o := range []api.Outcome{climb.Run(s), warm.Run(s, r.columns(s)), warm.Guided(s)} {
			if o.Verdict != api.Optimal {
				continue
			}
			for j := range s.C {
				lo, hi, err := span.Cost(s, o.Basis, j)
				if err != nil || !reachOf(lo, hi).has(toBig(s.C[j])) {
					t.Fatalf("Cost of %v, %v, %d: %s", s, o.Basis, j, ends(lo, hi, err))
				}
			}
			for i := range s.B {
				v, err := span.At(s, o.Basis, i, s.B[i])
				if err != nil || toBig(v).Cmp(toBig(o.Value)) != 0 {
					t.Fatalf("At of %v, %v, %d: %s, want %s", s, o.Basis, i, value(v, err), numberOf(o.Value))
				}
			}
			count["states"]++
		}
	}
	enough(t, 1000, count, "states")
}

// P17.5: a right side always has an end, as some row that is there, or one that is gone, hangs on it.
func TestRightHasAnEnd(t *testing.T) {
	r := chances(175)
	for range 1000 {
		s, basis := r.state(5, 8)
		for i := range s.B {
			if lo, hi, err := span.Right(s, basis, i); err != nil || !lo.Has && !hi.Has {
				t.Fatalf("Right of %v, %v, %d: %s", s, basis, i, ends(lo, hi, err))
			}
		}
	}
}

// R5, R6: what counts is the numbers, not how they are told; what is missing is 0, and what is beyond doesn't count.
func TestOtherForms(t *testing.T) {
	r := chances(172)
	for range 600 {
		s := r.standard(4, 6)
		basis := r.columns(s)
		for range 3 {
			other := r.otherForm(s)
			for j := range s.C {
				if got, want := ends(span.Cost(other, basis, j)), ends(span.Cost(s, basis, j)); got != want {
					t.Fatalf("Cost of %v, %v, %d: %s, want %s", other, basis, j, got, want)
				}
			}
			for i := range s.B {
				if got, want := ends(span.Right(other, basis, i)), ends(span.Right(s, basis, i)); got != want {
					t.Fatalf("Right of %v, %v, %d: %s, want %s", other, basis, i, got, want)
				}
				right := r.number()
				if got, want := value(span.At(other, basis, i, r.anyForm(toBig(right)))), value(span.At(s, basis, i, right)); got != want {
					t.Fatalf("At of %v, %v, %d, %s: %s, want %s", other, basis, i, numberOf(right), got, want)
				}
			}
		}
	}
}

// P17.8: duals of problems of all kinds are those that the promise tells, whatever form the problem is told in.
func TestDualsByChance(t *testing.T) {
	r, count := chances(178), map[string]int{}
	for range 3000 {
		p := r.problem(13, 13)
		want := told(secondDual(p))
		dualIs(t, p, want)
		dualIs(t, r.otherTelling(p), want)
		count[senseOf(p)]++
		if len(p.Vars) > 11 && len(p.Rows) > 11 {
			count["many"]++
		}
	}
	enough(t, 50, count, "min", "max", "many")
}

// minFirst gives two problems, the Min one first.
func minFirst(p, d api.Problem) (low, high api.Problem) {
	if p.Max {
		return d, p
	}
	return p, d
}

// P17.10: of points that hold, the value of the Min problem is not below that of the Max one.
func TestPointsOfAProblemAndItsDual(t *testing.T) {
	r, count := chances(1710), map[string]int{}
	for range 1500 {
		p := r.problem(4, 4)
		low, high := minFirst(p, span.Dual(p))
		if low.Max || !high.Max {
			t.Fatalf("one sense: %s", told(p))
		}
		for _, x := range r.points(low) {
			for _, y := range r.points(high) {
				if !isPoint(low, x) || !isPoint(high, y) {
					t.Fatalf("no points of %s", told(p))
				}
				order := valueAt(low, x).Cmp(valueAt(high, y))
				if order < 0 {
					t.Fatalf("%v and %v of %s", x, y, told(p))
				}
				count[senseOf(p)+map[int]string{0: ", alike", 1: ", apart"}[order]]++
			}
		}
	}
	enough(t, 100, count, "min, alike", "min, apart", "max, alike", "max, apart")
}

// P17.10, T6: a problem and its dual: the same value, or an unbounded one and an infeasible one, or both infeasible; each verdict is proven by the problem's own rows and bounds.
func TestVerdictsOfAProblemAndItsDual(t *testing.T) {
	r, count := chances(1711), map[string]int{}
	for range 5000 {
		p := r.problem(5, 5)
		d := span.Dual(p)
		one, other := back.Solve(p), back.Solve(d)
		if !isProof(p, one) || !isProof(d, other) {
			t.Fatalf("not proven: %s", told(p))
		}
		verdicts := verdictOf(one.Verdict) + " " + verdictOf(other.Verdict)
		switch verdicts {
		case "optimal optimal":
			if toBig(one.Value).Cmp(toBig(other.Value)) != 0 {
				t.Fatalf("%s and %s of %s", numberOf(one.Value), numberOf(other.Value), told(p))
			}
		case "unbounded infeasible", "infeasible unbounded", "infeasible infeasible":
		default:
			t.Fatalf("%s: %s", verdicts, told(p))
		}
		count[senseOf(p)+" "+verdicts]++
	}
	for _, sense := range []string{"min ", "max "} {
		enough(t, 40, count, sense+"optimal optimal", sense+"unbounded infeasible", sense+"infeasible unbounded", sense+"infeasible infeasible")
	}
}

// P17.10: the dual of the dual has the problem's value, too.
func TestDualsOfDuals(t *testing.T) {
	r, count := chances(1712), map[string]int{}
	for range 1000 {
		p := r.problem(3, 3)
		again := span.Dual(span.Dual(p))
		one, other := back.Solve(p), back.Solve(again)
		if again.Max != p.Max {
			t.Fatalf("another sense: %s", told(p))
		}
		if (one.Verdict == api.Optimal) != (other.Verdict == api.Optimal) || toBig(one.Value).Cmp(toBig(other.Value)) != 0 {
			t.Fatalf("%s %s, and %s %s, of %s", verdictOf(one.Verdict), numberOf(one.Value), verdictOf(other.Verdict), numberOf(other.Value), told(p))
		}
		count[verdictOf(one.Verdict)]++
	}
	enough(t, 50, count, "optimal", "infeasible", "unbounded")
}

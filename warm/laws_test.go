package warm_test

import (
	"fmt"
	"math/big"
	"slices"
	"testing"

	"vertex/api"
	"vertex/climb"
	"vertex/warm"
)

// sumAlong is what a row of a standard comes to at a point, or along a ray.
func sumAlong(s api.Standard, i int, y []api.Rat) *big.Rat {
	sum := whole(0)
	for j := range s.C {
		sum = plus(sum, times(entryOf(s, i, j), toBig(y[j])))
	}
	return sum
}

// sumDown is the sum of the multipliers times a column's numbers.
func sumDown(s api.Standard, j int, mult []api.Rat) *big.Rat {
	sum := whole(0)
	for i := range s.B {
		sum = plus(sum, times(toBig(mult[i]), entryOf(s, i, j)))
	}
	return sum
}

// dot is the sum of the products of two lists of one length.
func dot(a, b []api.Rat) *big.Rat {
	sum := whole(0)
	for i := range a {
		sum = plus(sum, times(toBig(a[i]), toBig(b[i])))
	}
	return sum
}

// belowNought tells whether one of the numbers is.
func belowNought(l []api.Rat) bool {
	return slices.ContainsFunc(l, func(a api.Rat) bool { return toBig(a).Sign() < 0 })
}

// isPoint tells what is wrong with a point.
func isPoint(s api.Standard, y []api.Rat) string {
	if len(y) != len(s.C) || belowNought(y) {
		return "no number for each column, or one below nought"
	}
	for i, right := range s.B {
		if sumAlong(s, i, y).Cmp(toBig(right)) != 0 {
			return fmt.Sprint("the point doesn't meet row ", i)
		}
	}
	return ""
}

// isLeast tells what is wrong with an optimal outcome: P12.6.
func isLeast(s api.Standard, o api.Outcome) string {
	if wrong := isPoint(s, o.Point); wrong != "" {
		return wrong
	}
	value := toBig(o.Value)
	if plus(dot(s.C, o.Point), toBig(s.K)).Cmp(value) != 0 {
		return "the point costs something else"
	}
	if len(o.Mult) != len(s.B) || plus(dot(o.Mult, s.B), toBig(s.K)).Cmp(value) != 0 {
		return "the multipliers come to something else"
	}
	for j, c := range s.C {
		if toBig(c).Cmp(sumDown(s, j, o.Mult)) < 0 {
			return fmt.Sprint("column ", j, " costs less than the multipliers say")
		}
	}
	return ""
}

// isNowhere tells what is wrong with an infeasible outcome: P12.7.
func isNowhere(s api.Standard, o api.Outcome) string {
	if len(o.Mult) != len(s.B) || dot(o.Mult, s.B).Sign() <= 0 {
		return "the multipliers times the right sides aren't above nought"
	}
	for j := range s.C {
		if sumDown(s, j, o.Mult).Sign() > 0 {
			return fmt.Sprint("above nought in column ", j)
		}
	}
	return ""
}

// isEndless tells what is wrong with an unbounded outcome: P12.8.
func isEndless(s api.Standard, o api.Outcome) string {
	if wrong := isPoint(s, o.Point); wrong != "" {
		return wrong
	}
	if len(o.Ray) != len(s.C) || belowNought(o.Ray) || dot(s.C, o.Ray).Sign() >= 0 {
		return "a ray below nought, or one that doesn't fall"
	}
	for i := range s.B {
		if sumAlong(s, i, o.Ray).Sign() != 0 {
			return fmt.Sprint("row ", i, " doesn't stay along the ray")
		}
	}
	return ""
}

// proven asks whether an outcome proves itself by the standard's own rows: P12.6 to P12.8.
func proven(t *testing.T, s api.Standard, o api.Outcome) {
	t.Helper()
	wrong := "no verdict"
	switch o.Verdict {
	case api.Optimal:
		wrong = isLeast(s, o)
	case api.Infeasible:
		wrong = isNowhere(s, o)
	case api.Unbounded:
		wrong = isEndless(s, o)
	}
	if wrong != "" {
		t.Fatalf("%s: %s, of %v", wrong, told(o), s)
	}
}

// enough asks whether each thing was there at least so often.
func enough(t *testing.T, least int, count map[string]int, names ...string) {
	t.Helper()
	for _, name := range names {
		if count[name] < least {
			t.Errorf("%s: only %d of %v", name, count[name], count)
		}
	}
}

// verdictOf is the name of an outcome's verdict.
func verdictOf(o api.Outcome) string {
	return []string{"none", "optimal", "infeasible", "unbounded"}[o.Verdict]
}

// asGood asks whether an outcome proves itself, and has climb.Run's verdict and value: P16.9.
func asGood(t *testing.T, s api.Standard, o api.Outcome) {
	t.Helper()
	proven(t, s, o)
	if want := climb.Run(s); o.Verdict != want.Verdict || toBig(o.Value).Cmp(toBig(want.Value)) != 0 {
		t.Fatalf("%s, and climb.Run tells %s, of %v", told(o), told(want), s)
	}
}

// P16.4 to P16.6, P16.9: outcomes of standards and lists of all kinds are those that the promises tell, field by field, and prove themselves.
func TestRunsByChance(t *testing.T) {
	r, count := chances(164), map[string]int{}
	for range 3000 {
		s := r.standard(4, 6)
		list := r.columns(s)
		o := warm.Run(s, list)
		want, which := secondRun(s, list)
		if told(o) != told(want) {
			t.Fatalf("%s, want\n%s, of %v, %v", told(o), told(want), s, list)
		}
		asGood(t, s, o)
		count[which]++
		count[verdictOf(o)]++
	}
	enough(t, 50, count, "a row that nothing meets", "up", "from the beginning", "dual, optimal", "dual, infeasible", "optimal", "infeasible", "unbounded")
}

// P16.5, P16.6, P16.9: the dual way, of standards that are made for it; some of their costs are all nought.
func TestDualWaysByChance(t *testing.T) {
	r, count := chances(165), map[string]int{}
	for round := range 2000 {
		s, list := r.slacked(4, 5)
		if round%4 == 0 {
			for j := range s.C {
				s.C[j] = api.Rat{}
			}
		}
		o := warm.Run(s, list)
		want, which := secondRun(s, list)
		if told(o) != told(want) {
			t.Fatalf("%s, want\n%s, of %v, %v", told(o), told(want), s, list)
		}
		asGood(t, s, o)
		count[which]++
		if o.Pivots[1] > 1 {
			count["several rounds"]++
		}
	}
	enough(t, 300, count, "up", "dual, optimal", "dual, infeasible", "several rounds")
}

// P16.9: greater standards, and such with many right sides and costs of nought.
func TestGreaterStandards(t *testing.T) {
	r, count := chances(169), map[string]int{}
	for round := range 400 {
		s, list := r.slacked(9, 9)
		if round%2 == 0 {
			s = r.standard(9, 14)
			list = r.columns(s)
		}
		if round%5 == 0 {
			for i := range s.B {
				s.B[i] = r.anyForm(whole(int64(min(0, r.Intn(4)-2))))
			}
		}
		o := warm.Run(s, list)
		asGood(t, s, o)
		count[verdictOf(o)]++
		if o.Pivots[1] > 0 && len(o.Trail) == 0 {
			count["dual"]++
		}
	}
	enough(t, 20, count, "optimal", "infeasible", "unbounded", "dual")
}

// begun tells an outcome without its way, as if Place had made all pivots. Where some rows say what others do, it is free which of them have multipliers.
func begun(s api.Standard, o api.Outcome) string {
	o.Pivots, o.Trail = [3]int{len(o.Basis)}, nil
	return withoutFreeMult(s, o)
}

func withoutFreeMult(s api.Standard, o api.Outcome) string {
	if len(o.Basis) < len(s.B) {
		o.Mult = nil
	}
	return told(o)
}

// shuffled gives a list in another order.
func (r chance) shuffled(list []int) []int {
	list = slices.Clone(list)
	r.Shuffle(len(list), func(i, k int) { list[i], list[k] = list[k], list[i] })
	return list
}

// P16.10: begun at the basis of an optimal outcome, in any order, Place makes all pivots, and the outcome is the same one.
func TestBegunAtTheEnd(t *testing.T) {
	r, optimal := chances(1610), 0
	for range 1200 {
		s := r.standard(6, 8)
		o := climb.Run(s)
		if o.Verdict != api.Optimal {
			continue
		}
		optimal++
		for _, list := range [][]int{o.Basis, r.shuffled(o.Basis)} {
			again := warm.Run(s, list)
			if got, want := withoutFreeMult(s, again), begun(s, o); got != want {
				t.Fatalf("%s, want\n%s, of %v, %v", got, want, s, list)
			}
			proven(t, s, again)
		}
	}
	if optimal < 300 {
		t.Errorf("only %d optimal ones", optimal)
	}
}

// P16.10: begun there with other right sides, it never goes back to the beginning, if Place answers true, and climb.Up has nothing to do.
func TestOtherRightSides(t *testing.T) {
	r, count := chances(1611), map[string]int{}
	for range 1500 {
		s := r.standard(5, 8)
		o := climb.Run(s)
		if o.Verdict != api.Optimal {
			continue
		}
		s.B = r.numbers(len(s.B))
		if r.Intn(3) > 0 {
			s.B = r.meeting(s, r.numbers(len(s.C)))
		}
		again := warm.Run(s, o.Basis)
		asGood(t, s, again)
		if _, is := warm.Place(s, o.Basis); !is {
			count["not whole"]++
			continue
		}
		if len(again.Trail) > 0 || again.Pivots[0] != len(o.Basis) || again.Pivots[2] != 0 {
			t.Fatalf("%s, begun at %v, of %v", told(again), o.Basis, s)
		}
		count[verdictOf(again)]++
		count["dual"] += min(again.Pivots[1], 1)
	}
	enough(t, 50, count, "not whole", "optimal", "infeasible", "dual")
}

// P16.10: begun there with other costs, it never goes back, and the dual method isn't needed.
func TestOtherCosts(t *testing.T) {
	r, count := chances(1612), map[string]int{}
	for range 1500 {
		s := r.standard(5, 8)
		o := climb.Run(s)
		if o.Verdict != api.Optimal {
			continue
		}
		s.C, s.K = r.numbers(len(s.C)), r.number()
		if r.Intn(2) == 0 {
			s.C = r.above(s)
		}
		again := warm.Run(s, o.Basis)
		asGood(t, s, again)
		if len(again.Trail) > 0 || again.Pivots[0] != len(o.Basis) || again.Pivots[1] != 0 {
			t.Fatalf("%s, begun at %v, of %v", told(again), o.Basis, s)
		}
		count[verdictOf(again)]++
		count["up"] += min(again.Pivots[2], 1)
	}
	enough(t, 100, count, "optimal", "unbounded", "up")
}

// R5, R6: what counts is the numbers, not how they are told; what is missing is 0, and what is beyond doesn't count.
func TestOtherForms(t *testing.T) {
	r := chances(166)
	for range 400 {
		s := r.standard(5, 7)
		list := r.columns(s)
		b, is := warm.Place(s, list)
		want := told(warm.Run(s, list))
		for range 3 {
			other := r.otherForm(s)
			c, same := warm.Place(other, list)
			if got := told(warm.Run(other, list)); got != want || same != is || shown(c) != shown(b) {
				t.Fatalf("%s, want\n%s, of %v and of %v, begun at %v", got, want, other, s, list)
			}
			if !slices.Equal(warm.Guess(other), warm.Guess(s)) {
				t.Fatalf("guessed %v of %v, and %v of %v", warm.Guess(other), other, warm.Guess(s), s)
			}
		}
	}
}

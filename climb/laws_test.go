package climb_test

import (
	"fmt"
	"math/big"
	"slices"
	"testing"

	"vertex/api"
	"vertex/climb"
)

// sumAlong is what a row of a standard comes to at a point, or along a ray.
func sumAlong(s api.Standard, i int, y []api.Rat) *big.Rat {
	sum := whole(0)
	for j := range s.C {
		sum = plus(sum, times(entryOf(s, i, j), toBig(y[j])))
	}
	return sum
}

// sumDown is the sum of the multipliers times a column's numbers.
func sumDown(s api.Standard, j int, mult []api.Rat) *big.Rat {
	sum := whole(0)
	for i := range s.B {
		sum = plus(sum, times(toBig(mult[i]), entryOf(s, i, j)))
	}
	return sum
}

// dot is the sum of the products of two lists of one length.
func dot(a, b []api.Rat) *big.Rat {
	sum := whole(0)
	for i := range a {
		sum = plus(sum, times(toBig(a[i]), toBig(b[i])))
	}
	return sum
}

// belowNought tells whether one of the numbers is.
func belowNought(l []api.Rat) bool {
	return slices.ContainsFunc(l, func(a api.Rat) bool { return toBig(a).Sign() < 0 })
}

// isPoint tells what is wrong with a point.
func isPoint(s api.Standard, y []api.Rat) string {
	if len(y) != len(s.C) || belowNought(y) {
		return "no number for each column, or one below nought"
	}
	for i, right := range s.B {
		if sumAlong(s, i, y).Cmp(toBig(right)) != 0 {
			return fmt.Sprint("the point doesn't meet row ", i)
		}
	}
	return ""
}

// isLeast tells what is wrong with an optimal outcome: P12.6.
func isLeast(s api.Standard, o api.Outcome) string {
	if wrong := isPoint(s, o.Point); wrong != "" {
		return wrong
	}
	value := toBig(o.Value)
	if plus(dot(s.C, o.Point), toBig(s.K)).Cmp(value) != 0 {
		return "the point costs something else"
	}
	if len(o.Mult) != len(s.B) || plus(dot(o.Mult, s.B), toBig(s.K)).Cmp(value) != 0 {
		return "the multipliers come to something else"
	}
	for j, c := range s.C {
		if toBig(c).Cmp(sumDown(s, j, o.Mult)) < 0 {
			return fmt.Sprint("column ", j, " costs less than the multipliers say")
		}
	}
	return ""
}

// isNowhere tells what is wrong with an infeasible outcome: P12.7.
func isNowhere(s api.Standard, o api.Outcome) string {
	if len(o.Mult) != len(s.B) || dot(o.Mult, s.B).Sign() <= 0 {
		return "the multipliers times the right sides aren't above nought"
	}
	for j := range s.C {
		if sumDown(s, j, o.Mult).Sign() > 0 {
			return fmt.Sprint("above nought in column ", j)
		}
	}
	return ""
}

// isEndless tells what is wrong with an unbounded outcome: P12.8.
func isEndless(s api.Standard, o api.Outcome) string {
	if wrong := isPoint(s, o.Point); wrong != "" {
		return wrong
	}
	if len(o.Ray) != len(s.C) || belowNought(o.Ray) || dot(s.C, o.Ray).Sign() >= 0 {
		return "a ray below nought, or one that doesn't fall"
	}
	for i := range s.B {
		if sumAlong(s, i, o.Ray).Sign() != 0 {
			return fmt.Sprint("row ", i, " doesn't stay along the ray")
		}
	}
	return ""
}

// proven asks whether an outcome proves itself by the standard's own rows: P12.6 to P12.8.
func proven(t *testing.T, s api.Standard, o api.Outcome) {
	t.Helper()
	wrong := "no verdict"
	switch o.Verdict {
	case api.Optimal:
		wrong = isLeast(s, o)
	case api.Infeasible:
		wrong = isNowhere(s, o)
	case api.Unbounded:
		wrong = isEndless(s, o)
	}
	if wrong != "" {
		t.Fatalf("%s: %s, of %v", wrong, told(o), s)
	}
}

// onTheWay asks whether the trail goes on by one column a pivot, whether no basis comes twice within a phase, and whether the way ends in the basis: P12.9.
func onTheWay(t *testing.T, s api.Standard, o api.Outcome) {
	t.Helper()
	n, m, p := len(s.C), len(s.B), o.Pivots
	if len(o.Trail) != 1+p[0]+p[1]+p[2] {
		t.Fatalf("as many lists as pivots, and one: %s", told(o))
	}
	second := slices.Clone(o.Trail[p[0]+p[1]:])
	second[0] = slices.DeleteFunc(slices.Clone(second[0]), func(j int) bool { return j >= n })
	if o.Verdict != api.Infeasible && !slices.Equal(second[len(second)-1], o.Basis) {
		t.Fatalf("the way ends in another basis: %s", told(o))
	}
	ways := new(big.Int).Binomial(int64(n+m), int64(m))
	for _, phase := range [][][]int{o.Trail[:p[0]+1], second} {
		if big.NewInt(int64(len(phase)-1)).Cmp(ways) >= 0 {
			t.Fatalf("too many pivots: %s", told(o))
		}
		for k, basis := range phase {
			if !slices.IsSorted(basis) || k > 0 && changed(phase[k-1], basis) != 1 {
				t.Fatalf("a basis that doesn't rise, or with more than one new column: %s", told(o))
			}
			if slices.ContainsFunc(phase[:k], func(other []int) bool { return slices.Equal(other, basis) }) {
				t.Fatalf("the basis %v comes twice: %s", basis, told(o))
			}
		}
	}
}

// changed tells how many columns the second basis has, as long as the first, that the first one hasn't; -1, if it isn't as long.
func changed(a, b []int) (n int) {
	if len(a) != len(b) {
		return -1
	}
	for _, j := range b {
		if !slices.Contains(a, j) {
			n++
		}
	}
	return n
}

// enough asks whether each thing was there at least so often.
func enough(t *testing.T, least int, count map[string]int, names ...string) {
	t.Helper()
	for _, name := range names {
		if count[name] < least {
			t.Errorf("%s: only %d of %v", name, count[name], count)
		}
	}
}

// kinds counts what an outcome shows.
func kinds(count map[string]int, o api.Outcome) {
	count[[]string{"none", "optimal", "infeasible", "unbounded"}[o.Verdict]]++
	for part, name := range []string{"in phase 1", "in driving out", "in phase 2"} {
		count[name] += min(o.Pivots[part], 1)
	}
	if last := len(o.Trail) - 1; last >= 0 && o.Verdict != api.Infeasible && len(o.Basis) < len(o.Trail[0]) {
		count["dropped"]++
	}
}

// P12.1 to P12.4, P12.6 to P12.9: outcomes of standards of all kinds are those that the promises tell, field by field, and prove themselves.
func TestRunsByChance(t *testing.T) {
	r, count := chances(12), map[string]int{}
	for range 1500 {
		s := r.standard(4, 6)
		o := climb.Run(s)
		if got, want := told(o), told(secondRun(s)); got != want {
			t.Fatalf("%s, want\n%s, of %v", got, want, s)
		}
		proven(t, s, o)
		onTheWay(t, s, o)
		kinds(count, o)
	}
	enough(t, 100, count, "optimal", "infeasible", "unbounded", "in phase 1", "in driving out", "in phase 2", "dropped")
}

// P12.5: going on from boards of all kinds, by costs of other standards too, is what the promises tell; the board stays as it was.
func TestUpsByChance(t *testing.T) {
	r, count := chances(125), map[string]int{}
	for range 4000 {
		s := r.standard(4, 6)
		b, p := r.boardOf(s)
		if r.Intn(2) == 0 {
			s = r.standard(3, 8)
		}
		var want api.Outcome
		if p.isReady() {
			want.Trail = [][]int{p.asTold()}
			p.secondUp(&want, s)
		}
		before := shown(b)
		o := climb.Up(b, s)
		if told(o) != told(want) {
			t.Fatalf("%s, want\n%s, of\n%s\nby %v", told(o), told(want), before, s)
		}
		if shown(b) != before {
			t.Fatalf("the board is now\n%s, was\n%s", shown(b), before)
		}
		kinds(count, o)
	}
	enough(t, 200, count, "none", "optimal", "unbounded", "in phase 2")
}

// P12.6 to P12.9: of greater standards, and of such with many right sides of nought.
func TestGreaterStandards(t *testing.T) {
	r, count := chances(126), map[string]int{}
	for round := range 400 {
		s := r.standard(9, 14)
		if round%3 == 0 {
			for i := range s.B {
				s.B[i] = api.Rat{}
			}
		}
		o := climb.Run(s)
		proven(t, s, o)
		onTheWay(t, s, o)
		kinds(count, o)
	}
	enough(t, 20, count, "optimal", "infeasible", "unbounded", "in phase 1", "in driving out", "in phase 2", "dropped")
}

// P12.10: what counts is the numbers, not how they are told; what is missing is 0, and what is beyond doesn't count.
func TestOtherForms(t *testing.T) {
	r := chances(1210)
	for range 400 {
		s := r.standard(5, 7)
		want := told(climb.Run(s))
		for range 4 {
			other := r.otherForm(s)
			if got := told(climb.Run(other)); got != want {
				t.Fatalf("%s, want\n%s, of %v and of %v", got, want, other, s)
			}
		}
	}
}

// T7: rows and columns in another order, rows multiplied: the same verdict, and the same value.
func TestAnotherOrder(t *testing.T) {
	r := chances(127)
	for range 400 {
		s := r.standard(5, 7)
		rows, columns := r.Perm(len(s.B)), r.Perm(len(s.C))
		c := api.Standard{K: s.K}
		for _, j := range columns {
			c.C = append(c.C, s.C[j])
		}
		for _, i := range rows {
			factor := big.NewRat(int64(r.Intn(4)*2-3), 2)
			var numbers []api.Rat
			for _, j := range columns {
				numbers = append(numbers, fromBig(times(factor, entryOf(s, i, j))))
			}
			c.A, c.B = append(c.A, numbers), append(c.B, fromBig(times(factor, toBig(s.B[i]))))
		}
		one, other := climb.Run(s), climb.Run(c)
		if one.Verdict != other.Verdict || numberOf(one.Value) != numberOf(other.Value) {
			t.Fatalf("%s, and in another order\n%s, of %v", told(one), told(other), s)
		}
	}
}

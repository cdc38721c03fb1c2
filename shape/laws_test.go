package shape_test

import (
	"math/big"
	"testing"

	"vertex/api"
	"vertex/model"
	"vertex/shape"
)

// P10.1 to P10.7: problems of all kinds by hand stand as the promises say, and so does their Tidy; lists of all lengths come back so.
func TestProblemsByHand(t *testing.T) {
	r := chances(10)
	for range 6000 {
		p, _ := r.problem()
		want := standardOf(p)
		for _, q := range []api.Problem{p, model.Tidy(p)} {
			stands(t, q, shown(want))
			s := shape.Make(q)
			for j := -1; j <= len(p.Vars); j++ {
				plus, minus := columnsOfVariable(p, j)
				columnsAre(t, s, j, plus, minus)
			}
			for _, n := range []int{len(want.C), len(want.B), r.Intn(12)} {
				y := r.numbers(n)
				for what, x := range map[string][2][]api.Rat{"Point": {s.Point(y), pointOf(p, y)}, "Ray": {s.Ray(y), rayOf(p, y)}, "Mult": {s.Mult(y), multOf(p, y)}} {
					if numbersOf(x[0]) != numbersOf(x[1]) {
						t.Errorf("%s of %s: %s, want %s", what, numbersOf(y), numbersOf(x[0]), numbersOf(x[1]))
					}
				}
			}
		}
		if t.Failed() {
			t.Fatal("of", told(p))
		}
	}
}

// dot is the sum of the products, as far as both lists go.
func dot(a, b []api.Rat) *big.Rat {
	sum := whole(0)
	for i := range min(len(a), len(b)) {
		sum.Add(sum, times(toBig(a[i]), toBig(b[i])))
	}
	return sum
}

// P10.8: whatever y is, the value at Point(y) is K and the costs times y, turned in a Max problem.
func TestValues(t *testing.T) {
	r := chances(101)
	for range 6000 {
		p, _ := r.problem()
		s := shape.Make(p)
		standard := s.Standard()
		for _, n := range []int{len(standard.C), 0, r.Intn(12)} {
			y := r.numbers(n)
			want := new(big.Rat).Add(toBig(standard.K), dot(standard.C, y))
			if p.Max {
				want.Neg(want)
			}
			if got := model.Value(p, s.Point(y)); toBig(got).Cmp(want) != 0 {
				t.Fatalf("%s: the value at Point(%s) is %s, want %s", told(p), numbersOf(y), numberOf(got), want.RatString())
			}
		}
	}
}

// P10.8: Point(y + z) is Point(y) and Ray(z) together.
func TestPointsAlongRays(t *testing.T) {
	r := chances(102)
	for range 6000 {
		p, _ := r.problem()
		s := shape.Make(p)
		y, z := r.numbers(r.Intn(12)), r.numbers(r.Intn(12))
		got, from, along := s.Point(added(y, z)), s.Point(y), s.Ray(z)
		if len(from) != len(along) || numbersOf(got) != numbersOf(added(from, along)) {
			t.Fatalf("%s: Point(%s), Ray(%s): %s, %s; of both together %s", told(p), numbersOf(y), numbersOf(z), numbersOf(from), numbersOf(along), numbersOf(got))
		}
	}
}

// added adds two lists up, the shorter one's missing numbers being 0.
func added(a, b []api.Rat) (l []api.Rat) {
	for i := range max(len(a), len(b)) {
		l = append(l, fromBig(new(big.Rat).Add(numberIn(a, i), numberIn(b, i))))
	}
	return l
}

// given is the y of a point, by P10.8's words: of a free variable one of plus and minus is 0, and each slack is what the first equation in which it stands leaves.
func given(p api.Problem, s *shape.Shape, x []api.Rat) []api.Rat {
	standard := s.Standard()
	y := make([]api.Rat, len(standard.C))
	known := 0
	for j, v := range p.Vars {
		plus, below := s.Columns(j)
		a := toBig(x[j])
		switch {
		case v.Lo.Has:
			a = minus(a, toBig(v.Lo.At))
		case v.Hi.Has:
			a = minus(toBig(v.Hi.At), a)
		case a.Sign() < 0:
			plus, a = below, a.Neg(a)
		}
		y[plus] = fromBig(a)
		known = max(known, plus+1, below+1)
	}
	for i, row := range standard.A {
		if known < len(row) && toBig(row[known]).Sign() != 0 {
			left := minus(toBig(standard.B[i]), dot(row, y))
			y[known] = fromBig(left.Quo(left, toBig(row[known])))
			known++
		}
	}
	return y
}

// meets tells whether A y = B, and no number of y is below 0.
func meets(s api.Standard, y []api.Rat) bool {
	for _, a := range y {
		if toBig(a).Sign() < 0 {
			return false
		}
	}
	for i, row := range s.A {
		if dot(row, y).Cmp(toBig(s.B[i])) != 0 {
			return false
		}
	}
	return true
}

// P10.8: a point holds just if its y meets the standard, and Point gives it back; so it does with more of both plus and minus of a free variable.
func TestPointsThatHold(t *testing.T) {
	r := chances(103)
	held := map[bool]int{}
	for range 8000 {
		p, near := r.problem()
		s := shape.Make(p)
		for _, x := range [][]api.Rat{near, r.numbers(len(p.Vars))} {
			y := given(p, s, x)
			holds := model.Holds(p, x)
			if meets(s.Standard(), y) != holds {
				t.Fatalf("%s: %s holds: %v; its y is %s", told(p), numbersOf(x), holds, numbersOf(y))
			}
			for j := range p.Vars {
				if plus, below := s.Columns(j); below >= 0 {
					more := r.Intn(3)
					y[plus] = fromBig(new(big.Rat).Add(toBig(y[plus]), whole(int64(more))))
					y[below] = fromBig(new(big.Rat).Add(toBig(y[below]), whole(int64(more))))
				}
			}
			back := s.Point(y)
			if meets(s.Standard(), y) != holds || model.Holds(p, back) != holds || numbersOf(back) != numbersOf(added(x, nil)) {
				t.Fatalf("%s: %s holds: %v; it comes back as %s", told(p), numbersOf(x), holds, numbersOf(back))
			}
			if len(p.Vars) > 0 && len(p.Rows) > 0 {
				held[holds]++
			}
		}
	}
	if held[true] < 1500 || held[false] < 1500 {
		t.Errorf("points that hold and that don't: %v", held)
	}
}

package back_test

import (
	"math"
	"testing"

	"vertex/api"
	"vertex/back"
	"vertex/shape"
)

var (
	least    = api.Problem{}
	greatest = api.Problem{Max: true}
)

// many is a shape of variables of all kinds and of rows of all kinds. Its columns: a is 2 + u, b is 5 - u, c plus and minus, d 1 + u. Its rows bring the standard's rows 0, none, 1 and 2, 3.
func many() *shape.Shape {
	return shape.Make(problem("max a + b st a + b >= 1 c >= - inf 2 <= d + a <= 4 b = 3 bounds a >= 2 -inf <= b <= 5 c free 1 <= d <= 3"))
}

// full is an outcome with all fields filled, of a verdict.
func full(verdict int) api.Outcome {
	return api.Outcome{
		Verdict: verdict,
		Value:   num("-7/2"),
		Point:   list("1 2 3 5 7"),
		Mult:    list("11 -13 17 19/2"),
		Ray:     list("4 6 8 1/3 -2"),
		Basis:   []int{3, 1, 9},
		Pivots:  [3]int{4, 5, 6},
		Trail:   [][]int{{1, 2}, {}, {7}},
	}
}

// P13.1: Value and each multiplier are turned in a Max problem, the point never; Ray doesn't count, nor does how the outcome was come to.
func TestOptimal(t *testing.T) {
	comesTo(t, least, many(), full(api.Optimal), "optimal -7/2, X 3 3 -2 8, Y 11 0 -13 19/2")
	comesTo(t, greatest, many(), full(api.Optimal), "optimal 7/2, X 3 3 -2 8, Y -11 0 13 -19/2")
}

// P13.2: the multipliers are never turned; Value, Point and Ray don't count.
func TestInfeasible(t *testing.T) {
	comesTo(t, least, many(), full(api.Infeasible), "infeasible, Y 11 0 -13 19/2")
	comesTo(t, greatest, many(), full(api.Infeasible), "infeasible, Y 11 0 -13 19/2")
}

// P13.3: neither the point nor the ray is turned; Value and Mult don't count.
func TestUnbounded(t *testing.T) {
	comesTo(t, least, many(), full(api.Unbounded), "unbounded, X 3 3 -2 8, Ray 4 -6 23/3 -2")
	comesTo(t, greatest, many(), full(api.Unbounded), "unbounded, X 3 3 -2 8, Ray 4 -6 23/3 -2")
}

// P13.3: of any other verdict nothing is told, whatever stands in the outcome; the chapter's example among them.
func TestOtherVerdicts(t *testing.T) {
	comesTo(t, least, many(), api.Outcome{Verdict: 4, Point: list("1")}, nothing)
	comesTo(t, greatest, many(), api.Outcome{}, nothing)
	for _, verdict := range []int{math.MinInt, math.MinInt + 1, -1 << 32, -256, -4, -3, -2, -1, 0, api.Stopped, 5, 6, 7, 255, 256, 257, 1<<16 + 1, 1<<32 + 1, 1<<32 + 2, 1<<32 + 3, math.MaxInt} {
		for _, p := range []api.Problem{least, greatest} {
			comesTo(t, p, many(), full(verdict), nothing)
		}
	}
}

// Of p nothing is looked at but Max: the shape is of another problem, or of the problem itself, the answer is the same.
func TestOnlyTheSenseCounts(t *testing.T) {
	itself := problem("max a + b st a + b >= 1 c >= - inf 2 <= d + a <= 4 b = 3 bounds a >= 2 -inf <= b <= 5 c free 1 <= d <= 3")
	other := problem("max 9 + 3 x + 5 y st x + y <= 4 x + 3 y <= 6 bounds 3 <= x <= 1 general y")
	for _, p := range []api.Problem{itself, other, greatest} {
		p.Max = true
		comesTo(t, p, many(), full(api.Optimal), "optimal 7/2, X 3 3 -2 8, Y -11 0 13 -19/2")
		comesTo(t, p, many(), full(api.Infeasible), "infeasible, Y 11 0 -13 19/2")
		p.Max = false
		comesTo(t, p, many(), full(api.Optimal), "optimal -7/2, X 3 3 -2 8, Y 11 0 -13 19/2")
		comesTo(t, p, many(), full(api.Unbounded), "unbounded, X 3 3 -2 8, Ray 4 -6 23/3 -2")
	}
}

// The sense of the problem of which the shape is doesn't count.
func TestAnotherSense(t *testing.T) {
	for _, text := range []string{"min x st x >= 1", "max x st x >= 1"} {
		s := shape.Make(problem(text))
		o := api.Outcome{Verdict: api.Optimal, Value: num("2"), Point: list("3"), Mult: list("5")}
		comesTo(t, least, s, o, "optimal 2, X 3, Y 5")
		comesTo(t, greatest, s, o, "optimal -2, X 3, Y -5")
	}
}

// R6: of lists that are too short the missing numbers are 0, of lists that are too long the last ones don't count; each list has a number for each variable or row.
func TestListsOfOtherLengths(t *testing.T) {
	o := func(verdict int, l string) api.Outcome {
		return api.Outcome{Verdict: verdict, Value: num("1"), Point: list(l), Mult: list(l), Ray: list(l)}
	}
	for _, x := range []struct{ numbers, point, mult, turned, ray string }{
		{"", "2 5 0 1", "0 0 0 0", "0 0 0 0", "0 0 0 0"},
		{"1", "3 5 0 1", "1 0 0 0", "-1 0 0 0", "1 0 0 0"},
		{"1 2", "3 3 0 1", "1 0 2 0", "-1 0 -2 0", "1 -2 0 0"},
		{"1 2 3", "3 3 3 1", "1 0 2 0", "-1 0 -2 0", "1 -2 3 0"},
		{"1 2 3 5", "3 3 -2 1", "1 0 2 5", "-1 0 -2 -5", "1 -2 -2 0"},
		{"1 2 3 5 7 11 13 17 19 23 29 31", "3 3 -2 8", "1 0 2 5", "-1 0 -2 -5", "1 -2 -2 7"},
	} {
		comesTo(t, least, many(), o(api.Optimal, x.numbers), "optimal 1, X "+x.point+", Y "+x.mult)
		comesTo(t, greatest, many(), o(api.Optimal, x.numbers), "optimal -1, X "+x.point+", Y "+x.turned)
		comesTo(t, greatest, many(), o(api.Infeasible, x.numbers), "infeasible, Y "+x.mult)
		comesTo(t, greatest, many(), o(api.Unbounded, x.numbers), "unbounded, X "+x.point+", Ray "+x.ray)
	}
}

// A shape without variables, and one without rows: the lists have no numbers, whatever the outcome's have.
func TestShapesOfNothing(t *testing.T) {
	for _, p := range []api.Problem{least, greatest} {
		value := map[bool]string{false: "-7/2", true: "7/2"}[p.Max]
		empty := shape.Make(api.Problem{})
		comesTo(t, p, empty, full(api.Optimal), "optimal "+value)
		comesTo(t, p, empty, full(api.Infeasible), "infeasible")
		comesTo(t, p, empty, full(api.Unbounded), "unbounded")
		comesTo(t, p, shape.Make(api.Problem{Rows: make([]api.Row, 2)}), full(api.Optimal), "optimal "+value+", Y 0 0")
		comesTo(t, p, shape.Make(problem("min x st")), full(api.Optimal), "optimal "+value+", X 1")
	}
}

// R5: numbers in other forms count for what they are, and are answered in the one form; nought has no sign, turned or not.
func TestFormsOfNumbers(t *testing.T) {
	o := api.Outcome{Value: odd("-5/3"), Point: odds("1/2 -3 4 2/3 9"), Mult: odds("-1/6 2 0 18446744073709551616/3"), Ray: odds("1 -1/2 0 3 5")}
	o.Verdict = api.Optimal
	comesTo(t, least, many(), o, "optimal -5/3, X 5/2 8 10/3 10, Y -1/6 0 2 18446744073709551616/3")
	comesTo(t, greatest, many(), o, "optimal 5/3, X 5/2 8 10/3 10, Y 1/6 0 -2 -18446744073709551616/3")
	o.Verdict = api.Infeasible
	comesTo(t, greatest, many(), o, "infeasible, Y -1/6 0 2 18446744073709551616/3")
	o.Verdict = api.Unbounded
	comesTo(t, greatest, many(), o, "unbounded, X 5/2 8 10/3 10, Ray 1 1/2 -3 5")
	for _, nought := range noughts() {
		l := []api.Rat{nought, nought, nought, nought, nought, nought}
		o := api.Outcome{Value: nought, Point: l, Mult: l, Ray: l}
		for _, p := range []api.Problem{least, greatest} {
			o.Verdict = api.Optimal
			comesTo(t, p, many(), o, "optimal 0, X 2 5 0 1, Y 0 0 0 0")
			o.Verdict = api.Infeasible
			comesTo(t, p, many(), o, "infeasible, Y 0 0 0 0")
			o.Verdict = api.Unbounded
			comesTo(t, p, many(), o, "unbounded, X 2 5 0 1, Ray 0 0 0 0")
		}
	}
}

// R3: lists that are nil and lists that are empty are the same.
func TestEmptyLists(t *testing.T) {
	for verdict := range 5 {
		empty := api.Outcome{Verdict: verdict, Point: []api.Rat{}, Mult: []api.Rat{}, Ray: []api.Rat{}, Basis: []int{}, Trail: [][]int{}}
		for _, p := range []api.Problem{least, greatest} {
			comesTo(t, p, many(), empty, told(back.Of(p, many(), api.Outcome{Verdict: verdict})))
		}
	}
}

// R1: no shape at all is no reason to panic, and nothing is told then.
func TestNoShape(t *testing.T) {
	for verdict := range 5 {
		comesTo(t, greatest, nil, full(verdict), nothing)
	}
}

// P13.1 to P13.3: outcomes of all kinds, with lists of all lengths, by shapes of all kinds, are told as the promises say.
func TestOutcomesByChance(t *testing.T) {
	r, count := chances(13), map[string]int{}
	for range 4000 {
		p, other := r.problem(), r.problem()
		s := shape.Make(p)
		if r.Intn(2) == 0 {
			s = shape.Make(other)
		}
		o := r.outcome()
		got := told(back.Of(p, s, o))
		if want := told(secondOf(p, s, o)); got != want {
			t.Fatalf("%s, want %s, of %v, Max %v", got, want, o, p.Max)
		}
		count[verdictOf(o.Verdict)+map[bool]string{false: " min", true: " max"}[p.Max]]++
	}
	enough(t, 300, count, "optimal min", "optimal max", "infeasible min", "infeasible max", "unbounded min", "unbounded max", "0 min", "4 max")
}

// secondOf is what Of is to answer, by the promises' words.
func secondOf(p api.Problem, s *shape.Shape, o api.Outcome) (c api.Cert) {
	inSense := func(a api.Rat) api.Rat {
		if p.Max {
			return fromBig(minus(whole(0), toBig(a)))
		}
		return fromBig(toBig(a))
	}
	if o.Verdict < api.Optimal || o.Verdict > api.Unbounded {
		return c
	}
	c.Verdict = o.Verdict
	if o.Verdict == api.Optimal {
		c.Value = inSense(o.Value)
	}
	if o.Verdict != api.Infeasible {
		c.X = s.Point(o.Point)
	}
	if o.Verdict == api.Infeasible {
		c.Y = s.Mult(o.Mult)
	}
	if o.Verdict == api.Optimal {
		for _, a := range s.Mult(o.Mult) {
			c.Y = append(c.Y, inSense(a))
		}
	}
	if o.Verdict == api.Unbounded {
		c.Ray = s.Ray(o.Ray)
	}
	return c
}

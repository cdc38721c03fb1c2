package model_test

import (
	"math/big"
	"testing"

	"vertex/api"
	"vertex/model"
	"vertex/parse"
)

// P7.1 to P7.4, P7.6: texts of all kinds by hand are built as the promises say, and what is built is its own Tidy.
func TestTextsByHand(t *testing.T) {
	r := chances(7)
	good, bad := 0, 0
	for range 20000 {
		text := r.text()
		want, fault := built(text)
		got, err := model.Build(text)
		if fault != nil {
			bad++
			isFault(t, "Build", got, err, *fault)
			continue
		}
		good++
		if err != nil || told(got) != told(want) {
			t.Fatalf("Build(%v):\n%s, %v, want\n%s", text, told(got), err, told(want))
		}
		if tidy := model.Tidy(got); told(tidy) != told(got) {
			t.Fatalf("Build(%v): %s, Tidy of that %s", text, told(got), told(tidy))
		}
	}
	if good < 5000 || bad < 1000 {
		t.Errorf("only %d texts are built, %d are refused", good, bad)
	}
}

// P7.5: Read is Build of what parse.Parse tells.
func TestReadIsBuild(t *testing.T) {
	for _, s := range []string{"min st end", "max z: 3x + 2y - 1 st c1: x + y <= 4 1 <= x - 2 y + 3 <= 9 bounds -inf <= x <= 10 z free general y binary u end", "min 1/3 x + 1/3 x st R2: x >= 1 3 <= x x = 1 bounds x <= 4 end", "min 1e-30 x st 18446744073709551616 x >= 2.5e40 end"} {
		text, err := parse.Parse(s)
		if err != nil {
			t.Fatal(err)
		}
		want, fault := built(text)
		if fault != nil {
			t.Fatal(fault)
		}
		reads(t, s, told(want))
	}
}

// P7.6 to P7.10: problems of all kinds by hand come to what the promises say, and are not known from their Tidy.
func TestProblemsByHand(t *testing.T) {
	r := chances(77)
	held, whole := map[bool]int{}, map[bool]int{}
	for range 20000 {
		p := r.problem()
		tidies(t, p, told(tidied(p)))
		for _, n := range []int{len(p.Vars), len(p.Vars), r.Intn(6)} {
			x := r.numbers(n)
			var sums []api.Rat
			for _, sum := range sumsOf(p, x) {
				sums = append(sums, fromBig(sum))
			}
			right := n == len(p.Vars)
			holds, wholes := right && allKept(p, x), right && allWhole(p, x)
			for _, q := range []api.Problem{p, model.Tidy(p)} {
				comes(t, q, x, numberOf(fromBig(valueOf(p, x))), numbersOf(sums))
				judged(t, q, x, holds, wholes)
			}
			if right && len(p.Rows) > 0 && n > 0 {
				held[holds]++
				whole[wholes]++
			}
		}
		if t.Failed() {
			t.Fatal("of", told(p))
		}
	}
	if held[true] < 2000 || held[false] < 2000 || whole[true] < 2000 || whole[false] < 2000 {
		t.Errorf("held: %v, whole: %v", held, whole)
	}
}

// between is x + t (y - x), by math/big.
func between(x, y []api.Rat, t *big.Rat) (l []api.Rat) {
	for i := range x {
		d := new(big.Rat).Sub(toBig(y[i]), toBig(x[i]))
		l = append(l, fromBig(d.Add(d.Mul(d, t), toBig(x[i]))))
	}
	return l
}

// P7.10: of two points that hold all between them hold, and the values there lie in the same measure.
func TestPointsBetween(t *testing.T) {
	r := chances(777)
	pairs := 0
	for range 20000 {
		p := r.problem()
		x, y := r.numbers(len(p.Vars)), r.numbers(len(p.Vars))
		if len(p.Vars) == 0 || len(p.Rows) == 0 || !model.Holds(p, x) || !model.Holds(p, y) {
			continue
		}
		pairs++
		from, to := toBig(model.Value(p, x)), toBig(model.Value(p, y))
		for _, part := range []*big.Rat{big.NewRat(0, 1), big.NewRat(1, 1), big.NewRat(1, 2), big.NewRat(1, 1e9), big.NewRat(int64(r.Intn(100)), 99)} {
			z := between(x, y, part)
			if !model.Holds(p, z) {
				t.Fatalf("%s: %s and %s hold, %s doesn't", told(p), numbersOf(x), numbersOf(y), numbersOf(z))
			}
			want := new(big.Rat).Sub(to, from)
			want.Add(want.Mul(want, part), from)
			if got := model.Value(p, z); numberOf(got) != numberOf(fromBig(want)) {
				t.Fatalf("%s: %s at %s, %s at %s, but %s at %s", told(p), from, numbersOf(x), to, numbersOf(y), numberOf(got), numbersOf(z))
			}
		}
	}
	if pairs < 500 {
		t.Errorf("only %d pairs hold", pairs)
	}
}

// P7.8, P7.10: points whose rows and variables are at their bounds, where a step to the wrong side breaks one.
func TestPointsAtTheirBounds(t *testing.T) {
	r := chances(7777)
	broken := 0
	for range 5000 {
		p := r.problem()
		x := r.numbers(len(p.Vars))
		for i, sum := range sumsOf(p, x) {
			p.Rows[i].Lo, p.Rows[i].Hi = api.Bound{Has: true, At: fromBig(sum)}, api.Bound{Has: true, At: fromBig(sum)}
		}
		for i := range p.Vars {
			p.Vars[i].Lo, p.Vars[i].Hi = api.Bound{Has: true, At: x[i]}, api.Bound{}
			if r.Intn(2) == 0 {
				p.Vars[i].Lo, p.Vars[i].Hi = p.Vars[i].Hi, p.Vars[i].Lo
			}
		}
		if !model.Holds(p, x) {
			t.Fatalf("%s: %s doesn't hold", told(p), numbersOf(x))
		}
		if len(x) == 0 {
			continue
		}
		i := r.Intn(len(x))
		x[i] = fromBig(new(big.Rat).Add(toBig(x[i]), big.NewRat(int64(2*r.Intn(2)-1), 1e18)))
		if got, want := model.Holds(p, x), allKept(p, x); got != want {
			t.Fatalf("%s: %s holds: %v", told(p), numbersOf(x), got)
		} else if !got {
			broken++
		}
	}
	if broken < 1000 {
		t.Errorf("only %d points break a bound", broken)
	}
}

// P7.4: many rows without a name, and many names in their way.
func TestManyRows(t *testing.T) {
	r := chances(70)
	for _, named := range []int{0, 1, 50, 200} {
		text := api.Text{Name: "R7", Claims: make([]api.Claim, 400)}
		for i, n := range r.Perm(400)[:named] {
			text.Claims[n].Name = "R" + numberOf(num(big.NewInt(int64(10+2*i)).String()))
		}
		want, fault := built(text)
		if fault != nil {
			t.Fatal(fault)
		}
		builds(t, text, told(want))
	}
}

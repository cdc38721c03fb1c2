package trim_test

import (
	"math/big"
	"slices"
	"strconv"
	"strings"
	"testing"

	"vertex/api"
	"vertex/model"
	"vertex/trim"
)

// The tests hold the package against math/big; numbers go there and back limb by limb.
func bigOf(a api.Nat) *big.Int {
	n := new(big.Int)
	for _, limb := range slices.Backward(a) {
		n.Lsh(n, 64).Or(n, new(big.Int).SetUint64(limb))
	}
	return n
}

func toBig(a api.Rat) *big.Rat {
	num, den := bigOf(a.Num.Mag), bigOf(a.Den)
	if den.Sign() == 0 {
		return new(big.Rat)
	}
	if a.Num.Neg {
		num.Neg(num)
	}
	return new(big.Rat).SetFrac(num, den)
}

// fromBig tells a number in its one form.
func fromBig(n *big.Rat) api.Rat {
	limbs := func(n *big.Int) (a api.Nat) {
		for _, w := range new(big.Int).Abs(n).Bits() {
			a = append(a, uint64(w))
		}
		return a
	}
	return api.Rat{Num: api.Int{Neg: n.Sign() < 0, Mag: limbs(n.Num())}, Den: limbs(n.Denom())}
}

func plus(a, b *big.Rat) *big.Rat { return new(big.Rat).Add(a, b) }

func minus(a, b *big.Rat) *big.Rat { return new(big.Rat).Sub(a, b) }

func times(a, b *big.Rat) *big.Rat { return new(big.Rat).Mul(a, b) }

func by(a, b *big.Rat) *big.Rat { return new(big.Rat).Quo(a, b) }

func turn(a *big.Rat) *big.Rat { return new(big.Rat).Neg(a) }

// num reads a number of a test's own.
func num(s string) api.Rat {
	n, ok := new(big.Rat).SetString(s)
	if !ok {
		panic("the test's own number is none: " + s)
	}
	return fromBig(n)
}

// has is a bound that is there, hasNot one that isn't, though a number stands in it.
func has(s string) api.Bound { return api.Bound{Has: true, At: num(s)} }

func hasNot(s string) api.Bound { return api.Bound{At: num(s)} }

// odd tells a number in another form: with a common divisor, and with limbs of nought at the end.
func odd(s string) api.Rat {
	a := num(s)
	times := func(a api.Nat) api.Nat {
		return append(fromBig(new(big.Rat).SetInt(new(big.Int).Mul(bigOf(a), big.NewInt(6)))).Num.Mag, 0, 0)
	}
	a.Num.Mag, a.Den = times(a.Num.Mag), times(a.Den)
	return a
}

// noughts are the ways in which nought is told.
func noughts() []api.Rat {
	return []api.Rat{{}, {Den: api.Nat{1}}, {Num: api.Int{Neg: true}, Den: api.Nat{3}}, {Num: api.Int{Mag: api.Nat{5}}}, {Num: api.Int{Neg: true, Mag: api.Nat{5}}, Den: api.Nat{0, 0}}, {Num: api.Int{Mag: api.Nat{0, 0}}, Den: api.Nat{7}}}
}

// list reads numbers that stand apart by blanks, odds tells each of them in another form.
func list(s string) (l []api.Rat) {
	for _, x := range strings.Fields(s) {
		l = append(l, num(x))
	}
	return l
}

func odds(s string) (l []api.Rat) {
	for _, x := range strings.Fields(s) {
		l = append(l, odd(x))
	}
	return l
}

// numberOf tells a number by its very fields, so that another form is another text.
func numberOf(a api.Rat) string {
	s := bigOf(a.Num.Mag).String()
	if a.Num.Neg {
		s = "-" + s
	}
	for _, l := range []api.Nat{a.Num.Mag, a.Den} {
		if n := len(l); n > 0 && l[n-1] == 0 {
			s += " with noughts"
		}
	}
	if slices.Equal(a.Den, api.Nat{1}) {
		return s
	}
	return s + "/" + bigOf(a.Den).String()
}

func numbersOf(l []api.Rat) (s string) {
	for _, a := range l {
		s += " " + numberOf(a)
	}
	return s
}

// isNought tells whether a number that has no meaning is told as it may be.
func isNought(a api.Rat) bool {
	return !a.Num.Neg && len(a.Num.Mag) == 0 && (len(a.Den) == 0 || slices.Equal(a.Den, api.Nat{1}))
}

// boundOf tells a bound; what stands in one that isn't there has to be nought.
func boundOf(b api.Bound) string {
	switch {
	case b.Has:
		return numberOf(b.At)
	case isNought(b.At):
		return "none"
	}
	return "none, but " + numberOf(b.At)
}

// senseOf tells a problem's sense.
func senseOf(p api.Problem) string { return map[bool]string{false: "min", true: "max"}[p.Max] }

// told writes a problem out, all of it: a variable with its Obj and its bounds, a row with its terms, each as its coefficient and its variable's place.
func told(p api.Problem) string {
	var w strings.Builder
	w.WriteString(senseOf(p) + " " + p.Name + ": " + numberOf(p.Const))
	for _, v := range p.Vars {
		w.WriteString(" | " + v.Name + " " + numberOf(v.Obj) + " from " + boundOf(v.Lo) + " to " + boundOf(v.Hi) + map[bool]string{true: " whole"}[v.Whole])
	}
	for _, row := range p.Rows {
		w.WriteString(" | " + row.Name + ":")
		for _, term := range row.Terms {
			w.WriteString(" " + numberOf(term.Coef) + "@" + strconv.Itoa(term.Var))
		}
		w.WriteString(" from " + boundOf(row.Lo) + " to " + boundOf(row.Hi))
	}
	return w.String()
}

// verdictOf tells a verdict by its name, and one that is none by its number.
func verdictOf(verdict int) string {
	switch verdict {
	case api.Optimal:
		return "optimal"
	case api.Infeasible:
		return "infeasible"
	case api.Unbounded:
		return "unbounded"
	}
	return strconv.Itoa(verdict)
}

// toldCert writes a certificate out, all of it; a Value of nought that stands beside a verdict without one is left out.
func toldCert(c api.Cert) string {
	s := verdictOf(c.Verdict)
	if c.Verdict == api.Optimal || !isNought(c.Value) {
		s += " " + numberOf(c.Value)
	}
	for _, l := range []struct {
		name    string
		numbers []api.Rat
	}{{"X", c.X}, {"Y", c.Y}, {"Ray", c.Ray}} {
		if len(l.numbers) > 0 {
			s += ", " + l.name + numbersOf(l.numbers)
		}
	}
	return s
}

// problem reads a problem of a test's own, its text without the end.
func problem(s string) api.Problem {
	p, err := model.Read(s + " end")
	if err != nil {
		panic("the test's own problem is none: " + s + ": " + err.Error())
	}
	return p
}

// optimal, infeasible and unbounded are certificates with those fields that the verdict names.
func optimal(value, x, y string) api.Cert {
	return api.Cert{Verdict: api.Optimal, Value: num(value), X: list(x), Y: list(y)}
}

func infeasible(y string) api.Cert { return api.Cert{Verdict: api.Infeasible, Y: list(y)} }

func unbounded(x, ray string) api.Cert {
	return api.Cert{Verdict: api.Unbounded, X: list(x), Ray: list(ray)}
}

// leaves asks what is left of a problem, and how many steps went to it; it is asked twice.
func leaves(t *testing.T, p api.Problem, want string, steps int) {
	t.Helper()
	u := trim.Of(p)
	for range 2 {
		if got := told(u.Problem()); got != want || u.Steps() != steps {
			t.Errorf("of %s:\n%s, %d steps, want\n%s, %d", told(p), got, u.Steps(), want, steps)
		}
	}
}

// stays asks whether nothing is done.
func stays(t *testing.T, p api.Problem) {
	t.Helper()
	leaves(t, p, told(model.Tidy(p)), 0)
}

// brings asks what a certificate of what is left is brought back to.
func brings(t *testing.T, p api.Problem, c api.Cert, want string) {
	t.Helper()
	if got := toldCert(trim.Of(p).Cert(c)); got != want {
		t.Errorf("%s of %s:\n%s, want\n%s", toldCert(c), told(p), got, want)
	}
}

// enough asks whether each thing was there at least so often.
func enough(t *testing.T, least int, count map[string]int, names ...string) {
	t.Helper()
	for _, name := range names {
		if count[name] < least {
			t.Errorf("%s: only %d of %v", name, count[name], count)
		}
	}
}

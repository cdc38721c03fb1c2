package check_test

import (
	"math/big"
	"slices"
	"strconv"
	"strings"
	"testing"

	"vertex/api"
	"vertex/check"
	"vertex/model"
)

// The tests hold the package against math/big; numbers go there and back limb by limb.
func bigOf(a api.Nat) *big.Int {
	n := new(big.Int)
	for _, limb := range slices.Backward(a) {
		n.Lsh(n, 64).Or(n, new(big.Int).SetUint64(limb))
	}
	return n
}

func toBig(a api.Rat) *big.Rat {
	num, den := bigOf(a.Num.Mag), bigOf(a.Den)
	if den.Sign() == 0 {
		return new(big.Rat)
	}
	if a.Num.Neg {
		num.Neg(num)
	}
	return new(big.Rat).SetFrac(num, den)
}

// fromBig tells a number in its one form.
func fromBig(n *big.Rat) api.Rat {
	limbs := func(n *big.Int) (a api.Nat) {
		for _, w := range new(big.Int).Abs(n).Bits() {
			a = append(a, uint64(w))
		}
		return a
	}
	return api.Rat{Num: api.Int{Neg: n.Sign() < 0, Mag: limbs(n.Num())}, Den: limbs(n.Denom())}
}

func plus(a, b *big.Rat) *big.Rat { return new(big.Rat).Add(a, b) }

func minus(a, b *big.Rat) *big.Rat { return new(big.Rat).Sub(a, b) }

func times(a, b *big.Rat) *big.Rat { return new(big.Rat).Mul(a, b) }

func by(a, b *big.Rat) *big.Rat { return new(big.Rat).Quo(a, b) }

func turn(a *big.Rat) *big.Rat { return new(big.Rat).Neg(a) }

// num reads a number of a test's own.
func num(s string) api.Rat {
	n, ok := new(big.Rat).SetString(s)
	if !ok {
		panic("the test's own number is none: " + s)
	}
	return fromBig(n)
}

// has is a bound that is there, hasNot one that isn't, though a number stands in it.
func has(s string) api.Bound { return api.Bound{Has: true, At: num(s)} }

func hasNot(s string) api.Bound { return api.Bound{At: num(s)} }

// odd tells a number in another form: with a common divisor, and with limbs of nought at the end.
func odd(s string) api.Rat {
	a := num(s)
	times := func(a api.Nat) api.Nat {
		return append(fromBig(new(big.Rat).SetInt(new(big.Int).Mul(bigOf(a), big.NewInt(6)))).Num.Mag, 0, 0)
	}
	a.Num.Mag, a.Den = times(a.Num.Mag), times(a.Den)
	return a
}

// noughts are the ways in which nought is told.
func noughts() []api.Rat {
	return []api.Rat{{}, {Den: api.Nat{1}}, {Num: api.Int{Neg: true}, Den: api.Nat{3}}, {Num: api.Int{Mag: api.Nat{5}}}, {Num: api.Int{Neg: true, Mag: api.Nat{5}}, Den: api.Nat{0, 0}}, {Num: api.Int{Mag: api.Nat{0, 0}}, Den: api.Nat{7}}}
}

// list reads numbers that stand apart by blanks, odds tells each of them in another form.
func list(s string) (l []api.Rat) {
	for _, x := range strings.Fields(s) {
		l = append(l, num(x))
	}
	return l
}

func odds(s string) (l []api.Rat) {
	for _, x := range strings.Fields(s) {
		l = append(l, odd(x))
	}
	return l
}

// numberOf tells a number by its very fields, so that another form is another text.
func numberOf(a api.Rat) string {
	s := bigOf(a.Num.Mag).String()
	if a.Num.Neg {
		s = "-" + s
	}
	for _, l := range []api.Nat{a.Num.Mag, a.Den} {
		if n := len(l); n > 0 && l[n-1] == 0 {
			s += " with noughts"
		}
	}
	if slices.Equal(a.Den, api.Nat{1}) {
		return s
	}
	return s + "/" + bigOf(a.Den).String()
}

// numbersOf tells numbers apart by blanks, whatever their form.
func numbersOf(l []api.Rat) string {
	var s []string
	for _, x := range l {
		s = append(s, toBig(x).RatString())
	}
	return strings.Join(s, " ")
}

// verdictOf tells a verdict by its name, and one that is none by its number.
func verdictOf(verdict int) string {
	switch verdict {
	case api.Optimal:
		return "optimal"
	case api.Infeasible:
		return "infeasible"
	case api.Unbounded:
		return "unbounded"
	}
	return strconv.Itoa(verdict)
}

// errorOf tells an error by its name. One that is wrapped is another one.
func errorOf(err error) string {
	switch err {
	case nil:
		return "nil"
	case api.ErrShape:
		return "ErrShape"
	case api.ErrPoint:
		return "ErrPoint"
	case api.ErrValue:
		return "ErrValue"
	case api.ErrBound:
		return "ErrBound"
	case api.ErrRay:
		return "ErrRay"
	case api.ErrVerdict:
		return "ErrVerdict"
	}
	return "another error: " + err.Error()
}

// told writes a certificate out.
func told(c api.Cert) string {
	return verdictOf(c.Verdict) + " " + toBig(c.Value).RatString() + ", X " + numbersOf(c.X) + ", Y " + numbersOf(c.Y) + ", Ray " + numbersOf(c.Ray)
}

func boundOf(b api.Bound) string {
	if b.Has {
		return toBig(b.At).RatString()
	}
	return "none"
}

// senseOf tells a problem's sense.
func senseOf(p api.Problem) string { return map[bool]string{false: "min", true: "max"}[p.Max] }

// shown writes a problem out: a variable with its Obj and its bounds, a row with its terms, each as its coefficient and its variable's place.
func shown(p api.Problem) string {
	var w strings.Builder
	w.WriteString(senseOf(p) + " " + toBig(p.Const).RatString())
	for _, v := range p.Vars {
		w.WriteString(" | " + toBig(v.Obj).RatString() + " from " + boundOf(v.Lo) + " to " + boundOf(v.Hi))
	}
	for _, row := range p.Rows {
		w.WriteString(" |")
		for _, term := range row.Terms {
			w.WriteString(" " + toBig(term.Coef).RatString() + "@" + strconv.Itoa(term.Var))
		}
		w.WriteString(": from " + boundOf(row.Lo) + " to " + boundOf(row.Hi))
	}
	return w.String()
}

// problem reads a problem of a test's own, its text without the end.
func problem(s string) api.Problem {
	p, err := model.Read(s + " end")
	if err != nil {
		panic("the test's own problem is none: " + s + ": " + err.Error())
	}
	return p
}

// optimal, infeasible and unbounded are certificates with those fields that the verdict names.
func optimal(value, x, y string) api.Cert {
	return api.Cert{Verdict: api.Optimal, Value: num(value), X: list(x), Y: list(y)}
}

func infeasible(y string) api.Cert { return api.Cert{Verdict: api.Infeasible, Y: list(y)} }

func unbounded(x, ray string) api.Cert {
	return api.Cert{Verdict: api.Unbounded, X: list(x), Ray: list(ray)}
}

// provenOf tells what Prove answers: the number by its very fields, or the error, beside which the number has to be the zero value.
func provenOf(t *testing.T, p api.Problem, y []api.Rat) string {
	t.Helper()
	a, err := check.Prove(p, y)
	if err == nil {
		return numberOf(a)
	}
	if a.Num.Neg || a.Num.Mag != nil || a.Den != nil {
		t.Errorf("beside %v: %v", err, a)
	}
	return errorOf(err)
}

// proves asks what multipliers prove of a problem.
func proves(t *testing.T, p api.Problem, y []api.Rat, want string) {
	t.Helper()
	if got := provenOf(t, p, y); got != want {
		t.Errorf("Prove of %s by %s: %s, want %s", shown(p), numbersOf(y), got, want)
	}
}

// checks asks what Check answers.
func checks(t *testing.T, p api.Problem, c api.Cert, want error) {
	t.Helper()
	if got := check.Check(p, c); got != want {
		t.Errorf("Check of %s, %s: %s, want %s", shown(p), told(c), errorOf(got), errorOf(want))
	}
}

// enough asks whether each thing was there at least so often.
func enough(t *testing.T, least int, count map[string]int, names ...string) {
	t.Helper()
	for _, name := range names {
		if count[name] < least {
			t.Errorf("%s: only %d of %v", name, count[name], count)
		}
	}
}

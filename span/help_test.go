package span_test

import (
	"math/big"
	"slices"
	"strconv"
	"strings"
	"testing"

	"vertex/api"
	"vertex/model"
	"vertex/span"
)

// The tests hold the package against math/big; numbers go there and back limb by limb.
func bigOf(a api.Nat) *big.Int {
	n := new(big.Int)
	for _, limb := range slices.Backward(a) {
		n.Lsh(n, 64).Or(n, new(big.Int).SetUint64(limb))
	}
	return n
}

func toBig(a api.Rat) *big.Rat {
	num, den := bigOf(a.Num.Mag), bigOf(a.Den)
	if den.Sign() == 0 {
		return new(big.Rat)
	}
	if a.Num.Neg {
		num.Neg(num)
	}
	return new(big.Rat).SetFrac(num, den)
}

// fromBig tells a number in its one form.
func fromBig(n *big.Rat) api.Rat {
	limbs := func(n *big.Int) (a api.Nat) {
		for _, w := range new(big.Int).Abs(n).Bits() {
			a = append(a, uint64(w))
		}
		return a
	}
	return api.Rat{Num: api.Int{Neg: n.Sign() < 0, Mag: limbs(n.Num())}, Den: limbs(n.Denom())}
}

func whole(n int64) *big.Rat { return big.NewRat(n, 1) }

func plus(a, b *big.Rat) *big.Rat { return new(big.Rat).Add(a, b) }

func minus(a, b *big.Rat) *big.Rat { return new(big.Rat).Sub(a, b) }

func times(a, b *big.Rat) *big.Rat { return new(big.Rat).Mul(a, b) }

func by(a, b *big.Rat) *big.Rat { return new(big.Rat).Quo(a, b) }

func turn(a *big.Rat) *big.Rat { return new(big.Rat).Neg(a) }

// numberIn is a number of a list, 0 where it is missing.
func numberIn(l []api.Rat, i int) *big.Rat {
	if 0 <= i && i < len(l) {
		return toBig(l[i])
	}
	return whole(0)
}

// entryOf is a number of a standard, 0 where it is missing.
func entryOf(s api.Standard, i, j int) *big.Rat {
	if i < len(s.A) && j < len(s.C) {
		return numberIn(s.A[i], j)
	}
	return whole(0)
}

// num reads a number of a test's own.
func num(s string) api.Rat {
	n, ok := new(big.Rat).SetString(s)
	if !ok {
		panic("the test's own number is none: " + s)
	}
	return fromBig(n)
}

// has is a bound that is there, hasNot one that isn't, though a number stands in it.
func has(s string) api.Bound { return api.Bound{Has: true, At: num(s)} }

func hasNot(s string) api.Bound { return api.Bound{At: num(s)} }

// odd tells a number in another form: with a common divisor, and with limbs of nought at the end.
func odd(s string) api.Rat {
	a := num(s)
	times := func(a api.Nat) api.Nat {
		return append(fromBig(new(big.Rat).SetInt(new(big.Int).Mul(bigOf(a), big.NewInt(6)))).Num.Mag, 0, 0)
	}
	a.Num.Mag, a.Den = times(a.Num.Mag), times(a.Den)
	return a
}

// noughts are the ways in which nought is told.
func noughts() []api.Rat {
	return []api.Rat{{}, {Den: api.Nat{1}}, {Num: api.Int{Neg: true}, Den: api.Nat{3}}, {Num: api.Int{Mag: api.Nat{5}}}, {Num: api.Int{Neg: true, Mag: api.Nat{5}}, Den: api.Nat{0, 0}}, {Num: api.Int{Mag: api.Nat{0, 0}}, Den: api.Nat{7}}}
}

// list reads numbers that stand apart by blanks.
func list(s string) (l []api.Rat) {
	for _, x := range strings.Fields(s) {
		l = append(l, num(x))
	}
	return l
}

// numberOf tells a number by its very fields, so that another form is another text.
func numberOf(a api.Rat) string {
	s := bigOf(a.Num.Mag).String()
	if a.Num.Neg {
		s = "-" + s
	}
	for _, l := range []api.Nat{a.Num.Mag, a.Den} {
		if n := len(l); n > 0 && l[n-1] == 0 {
			s += " with noughts"
		}
	}
	if slices.Equal(a.Den, api.Nat{1}) {
		return s
	}
	return s + "/" + bigOf(a.Den).String()
}

// isNought tells whether a number that has no meaning is told as it may be.
func isNought(a api.Rat) bool {
	return !a.Num.Neg && len(a.Num.Mag) == 0 && (len(a.Den) == 0 || slices.Equal(a.Den, api.Nat{1}))
}

// boundOf tells a bound; what stands in one that isn't there has to be nought.
func boundOf(b api.Bound) string {
	switch {
	case b.Has:
		return numberOf(b.At)
	case isNought(b.At):
		return "none"
	}
	return "none, but " + numberOf(b.At)
}

// isZero tells whether a number is the zero value.
func isZero(a api.Rat) bool { return !a.Num.Neg && a.Num.Mag == nil && a.Den == nil }

// errorOf tells an error by its name. One that is wrapped is another one.
func errorOf(err error) string {
	switch err {
	case nil:
		return "nil"
	case api.ErrArg:
		return "ErrArg"
	case api.ErrState:
		return "ErrState"
	}
	return "another error: " + err.Error()
}

// ends tells two bounds, or the error, beside which they have to be zero values.
func ends(lo, hi api.Bound, err error) string {
	if err == nil {
		return boundOf(lo) + ", " + boundOf(hi)
	}
	s := errorOf(err)
	for _, b := range []api.Bound{lo, hi} {
		if b.Has || !isZero(b.At) {
			s += ", beside " + boundOf(b)
		}
	}
	return s
}

// value tells a number, or the error, beside which it has to be the zero value.
func value(a api.Rat, err error) string {
	if err == nil {
		return numberOf(a)
	}
	if !isZero(a) {
		return errorOf(err) + ", beside " + numberOf(a)
	}
	return errorOf(err)
}

// standard reads a standard: its rows, each with its right side behind a =; its costs behind a C, its constant behind a K.
func standard(text string) (s api.Standard) {
	for _, part := range strings.Split(text, ";") {
		part = strings.TrimSpace(part)
		numbers, right, isRow := strings.Cut(part, "=")
		costs, isCosts := strings.CutPrefix(part, "C")
		constant, isConstant := strings.CutPrefix(part, "K")
		switch {
		case isRow:
			s.A, s.B = append(s.A, list(numbers)), append(s.B, num(strings.TrimSpace(right)))
		case isCosts:
			s.C = list(costs)
		case isConstant:
			s.K = num(strings.TrimSpace(constant))
		default:
			panic("the test's own standard is none: " + text)
		}
	}
	return s
}

// costs asks between which costs of a column a list stays a state.
func costs(t *testing.T, text string, basis []int, j int, want string) {
	t.Helper()
	if got := ends(span.Cost(standard(text), basis, j)); got != want {
		t.Errorf("Cost of %s, %v, %d: %s, want %s", text, basis, j, got, want)
	}
}

// rights asks between which right sides of a row a list stays a state.
func rights(t *testing.T, text string, basis []int, i int, want string) {
	t.Helper()
	if got := ends(span.Right(standard(text), basis, i)); got != want {
		t.Errorf("Right of %s, %v, %d: %s, want %s", text, basis, i, got, want)
	}
}

// comesTo asks for the least value with another right side.
func comesTo(t *testing.T, text string, basis []int, i int, right, want string) {
	t.Helper()
	if got := value(span.At(standard(text), basis, i, num(right))); got != want {
		t.Errorf("At of %s, %v, %d, %s: %s, want %s", text, basis, i, right, got, want)
	}
}

// senseOf tells a problem's sense.
func senseOf(p api.Problem) string { return map[bool]string{false: "min", true: "max"}[p.Max] }

// told writes a problem out, all of it: a variable with its Obj and its bounds, a row with its terms, each as its coefficient and its variable's place.
func told(p api.Problem) string {
	var w strings.Builder
	w.WriteString(senseOf(p) + " " + p.Name + ": " + numberOf(p.Const))
	for _, v := range p.Vars {
		w.WriteString(" | " + v.Name + " " + numberOf(v.Obj) + " from " + boundOf(v.Lo) + " to " + boundOf(v.Hi) + map[bool]string{true: " whole"}[v.Whole])
	}
	for _, row := range p.Rows {
		w.WriteString(" | " + row.Name + ":")
		for _, term := range row.Terms {
			w.WriteString(" " + numberOf(term.Coef) + "@" + strconv.Itoa(term.Var))
		}
		w.WriteString(" from " + boundOf(row.Lo) + " to " + boundOf(row.Hi))
	}
	return w.String()
}

// problem reads a problem of a test's own, its text without the end.
func problem(s string) api.Problem {
	p, err := model.Read(s + " end")
	if err != nil {
		panic("the test's own problem is none: " + s + ": " + err.Error())
	}
	return p
}

// dualIs asks for the dual, whole, which has to be told as Tidy tells it.
func dualIs(t *testing.T, p api.Problem, want string) {
	t.Helper()
	d := span.Dual(p)
	if got := told(d); got != want || told(model.Tidy(d)) != want {
		t.Errorf("Dual of %s:\n%s, want\n%s", told(p), got, want)
	}
}

// verdictOf tells a verdict by its name.
func verdictOf(verdict int) string {
	return []string{"none", "optimal", "infeasible", "unbounded"}[verdict]
}

// enough asks whether each thing was there at least so often.
func enough(t *testing.T, least int, count map[string]int, names ...string) {
	t.Helper()
	for _, name := range names {
		if count[name] < least {
			t.Errorf("%s: only %d of %v", name, count[name], count)
		}
	}
}

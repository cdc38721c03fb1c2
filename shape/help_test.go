package shape_test

import (
	"math/big"
	"reflect"
	"slices"
	"strconv"
	"strings"
	"testing"

	"vertex/api"
	"vertex/model"
	"vertex/shape"
)

// The tests hold the package against math/big; numbers go there and back limb by limb.
func bigOf(a api.Nat) *big.Int {
	n := new(big.Int)
	for _, limb := range slices.Backward(a) {
		n.Lsh(n, 64).Or(n, new(big.Int).SetUint64(limb))
	}
	return n
}

func toBig(a api.Rat) *big.Rat {
	num, den := bigOf(a.Num.Mag), bigOf(a.Den)
	if den.Sign() == 0 {
		return new(big.Rat)
	}
	if a.Num.Neg {
		num.Neg(num)
	}
	return new(big.Rat).SetFrac(num, den)
}

// fromBig tells a number in its one form.
func fromBig(n *big.Rat) api.Rat {
	limbs := func(n *big.Int) (a api.Nat) {
		for _, w := range new(big.Int).Abs(n).Bits() {
			a = append(a, uint64(w))
		}
		return a
	}
	return api.Rat{Num: api.Int{Neg: n.Sign() < 0, Mag: limbs(n.Num())}, Den: limbs(n.Denom())}
}

// num reads a number of a test's own.
func num(s string) api.Rat {
	n, ok := new(big.Rat).SetString(s)
	if !ok {
		panic("the test's own number is none: " + s)
	}
	return fromBig(n)
}

// has is a bound that is there, hasNot one that isn't, though a number stands in it.
func has(s string) api.Bound { return api.Bound{Has: true, At: num(s)} }

func hasNot(s string) api.Bound { return api.Bound{At: num(s)} }

// odd tells a number in another form: with a common divisor, and with limbs of nought at the end.
func odd(s string) api.Rat {
	a := num(s)
	times := func(a api.Nat) api.Nat {
		return append(fromBig(new(big.Rat).SetInt(new(big.Int).Mul(bigOf(a), big.NewInt(6)))).Num.Mag, 0, 0)
	}
	a.Num.Mag, a.Den = times(a.Num.Mag), times(a.Den)
	return a
}

// noughts are the ways in which nought is told.
func noughts() []api.Rat {
	return []api.Rat{{}, {Den: api.Nat{1}}, {Num: api.Int{Neg: true}, Den: api.Nat{3}}, {Num: api.Int{Mag: api.Nat{5}}}, {Num: api.Int{Neg: true, Mag: api.Nat{5}}, Den: api.Nat{0, 0}}, {Num: api.Int{Mag: api.Nat{0, 0}}, Den: api.Nat{7}}}
}

// numberOf tells a number by its very fields, so that another form is another text.
func numberOf(a api.Rat) string {
	s := bigOf(a.Num.Mag).String()
	if a.Num.Neg {
		s = "-" + s
	}
	for _, l := range []api.Nat{a.Num.Mag, a.Den} {
		if n := len(l); n > 0 && l[n-1] == 0 {
			s += " with noughts"
		}
	}
	if slices.Equal(a.Den, api.Nat{1}) {
		return s
	}
	return s + "/" + bigOf(a.Den).String()
}

// boundOf tells a bound; what stands in one that isn't there has to be nought.
func boundOf(b api.Bound) string {
	switch {
	case b.Has:
		return numberOf(b.At)
	case reflect.DeepEqual(b, api.Bound{}) || numberOf(b.At) == "0":
		return "none"
	}
	return "none, but " + numberOf(b.At)
}

// told writes a problem out, all of it: a variable with its Obj and its bounds, a row with its terms, each as its coefficient and its variable's place.
func told(p api.Problem) string {
	var w strings.Builder
	w.WriteString(map[bool]string{false: "min ", true: "max "}[p.Max] + p.Name + ": " + numberOf(p.Const))
	for _, v := range p.Vars {
		w.WriteString(" | " + v.Name + " " + numberOf(v.Obj) + " from " + boundOf(v.Lo) + " to " + boundOf(v.Hi) + map[bool]string{true: " whole"}[v.Whole])
	}
	for _, row := range p.Rows {
		w.WriteString(" | " + row.Name + ":")
		for _, term := range row.Terms {
			w.WriteString(" " + numberOf(term.Coef) + "@" + strconv.Itoa(term.Var))
		}
		w.WriteString(" from " + boundOf(row.Lo) + " to " + boundOf(row.Hi))
	}
	return w.String()
}

// list reads numbers that stand apart by blanks.
func list(s string) (l []api.Rat) {
	for _, x := range strings.Fields(s) {
		l = append(l, num(x))
	}
	return l
}

// numbersOf tells numbers by their very fields, apart by blanks.
func numbersOf(l []api.Rat) string {
	var s []string
	for _, x := range l {
		s = append(s, numberOf(x))
	}
	return strings.Join(s, " ")
}

// shown writes a standard out, all of it, and whether its lists' lengths fit.
func shown(s api.Standard) string {
	var w strings.Builder
	if len(s.A) != len(s.B) {
		return "A has " + strconv.Itoa(len(s.A)) + " rows, B " + strconv.Itoa(len(s.B)) + " numbers"
	}
	for i, row := range s.A {
		if len(row) != len(s.C) {
			w.WriteString("(of another length than C) ")
		}
		w.WriteString(strings.TrimSpace(numbersOf(row)+" = "+numberOf(s.B[i])) + "; ")
	}
	return w.String() + strings.TrimSpace("C "+numbersOf(s.C)) + "; K " + numberOf(s.K)
}

// problem reads a problem of a test's own, its text without the end.
func problem(s string) api.Problem {
	p, err := model.Read(s + " end")
	if err != nil {
		panic("the test's own problem is none: " + s + ": " + err.Error())
	}
	return p
}

// stands asks for a problem's standard.
func stands(t *testing.T, p api.Problem, want string) {
	t.Helper()
	if got := shown(shape.Make(p).Standard()); got != want {
		t.Errorf("%s:\n%s, want\n%s", told(p), got, want)
	}
}

// backTo asks for what one of the ways back answers of a list.
func backTo(t *testing.T, what string, back func([]api.Rat) []api.Rat, of, want string) {
	t.Helper()
	if got := numbersOf(back(list(of))); got != want {
		t.Errorf("%s of [%s]: [%s], want [%s]", what, of, got, want)
	}
}

// columnsAre asks for a variable's columns.
func columnsAre(t *testing.T, s *shape.Shape, j, plus, minus int) {
	t.Helper()
	if a, b := s.Columns(j); a != plus || b != minus {
		t.Errorf("Columns(%d): %d, %d, want %d, %d", j, a, b, plus, minus)
	}
}

// term is a term by hand.
func term(place int, coef string) api.Term { return api.Term{Var: place, Coef: num(coef)} }

// the chapter's second problem.
func second() api.Problem { return problem("max x st -1 <= x <= 3 bounds -inf <= x <= 5") }

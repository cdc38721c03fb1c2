package write_test

import (
	"math/big"
	"reflect"
	"slices"
	"strconv"
	"strings"
	"testing"

	"vertex/api"
	"vertex/model"
	"vertex/write"
)

// The tests hold the package against math/big; numbers go there and back limb by limb.
func bigOf(a api.Nat) *big.Int {
	n := new(big.Int)
	for _, limb := range slices.Backward(a) {
		n.Lsh(n, 64).Or(n, new(big.Int).SetUint64(limb))
	}
	return n
}

func toBig(a api.Rat) *big.Rat {
	num, den := bigOf(a.Num.Mag), bigOf(a.Den)
	if den.Sign() == 0 {
		return new(big.Rat)
	}
	if a.Num.Neg {
		num.Neg(num)
	}
	return new(big.Rat).SetFrac(num, den)
}

// fromBig tells a number in its one form.
func fromBig(n *big.Rat) api.Rat {
	limbs := func(n *big.Int) (a api.Nat) {
		for _, w := range new(big.Int).Abs(n).Bits() {
			a = append(a, uint64(w))
		}
		return a
	}
	return api.Rat{Num: api.Int{Neg: n.Sign() < 0, Mag: limbs(n.Num())}, Den: limbs(n.Denom())}
}

// num reads a number of a test's own.
func num(s string) api.Rat {
	n, ok := new(big.Rat).SetString(s)
	if !ok {
		panic("the test's own number is none: " + s)
	}
	return fromBig(n)
}

// has is a bound that is there, hasNot one that isn't, though a number stands in it.
func has(s string) api.Bound { return api.Bound{Has: true, At: num(s)} }

func hasNot(s string) api.Bound { return api.Bound{At: num(s)} }

// odd tells a number in another form: with a common divisor, and with limbs of nought at the end.
func odd(s string) api.Rat {
	a := num(s)
	times := func(a api.Nat) api.Nat {
		return append(fromBig(new(big.Rat).SetInt(new(big.Int).Mul(bigOf(a), big.NewInt(6)))).Num.Mag, 0, 0)
	}
	a.Num.Mag, a.Den = times(a.Num.Mag), times(a.Den)
	return a
}

// noughts are the ways in which nought is told.
func noughts() []api.Rat {
	return []api.Rat{{}, {Den: api.Nat{1}}, {Num: api.Int{Neg: true}, Den: api.Nat{3}}, {Num: api.Int{Mag: api.Nat{5}}}, {Num: api.Int{Neg: true, Mag: api.Nat{5}}, Den: api.Nat{0, 0}}, {Num: api.Int{Mag: api.Nat{0, 0}}, Den: api.Nat{7}}}
}

// numberOf tells a number by its very fields, so that another form is another text.
func numberOf(a api.Rat) string {
	s := bigOf(a.Num.Mag).String()
	if a.Num.Neg {
		s = "-" + s
	}
	for _, l := range []api.Nat{a.Num.Mag, a.Den} {
		if n := len(l); n > 0 && l[n-1] == 0 {
			s += " with noughts"
		}
	}
	if slices.Equal(a.Den, api.Nat{1}) {
		return s
	}
	return s + "/" + bigOf(a.Den).String()
}

// boundOf tells a bound; what stands in one that isn't there has to be nought.
func boundOf(b api.Bound) string {
	switch {
	case b.Has:
		return numberOf(b.At)
	case reflect.DeepEqual(b, api.Bound{}) || numberOf(b.At) == "0":
		return "none"
	}
	return "none, but " + numberOf(b.At)
}

// told writes a problem out, all of it: a variable with its Obj and its bounds, a row with its terms, each as its coefficient and its variable's place.
func told(p api.Problem) string {
	var w strings.Builder
	w.WriteString(map[bool]string{false: "min ", true: "max "}[p.Max] + p.Name + ": " + numberOf(p.Const))
	for _, v := range p.Vars {
		w.WriteString(" | " + v.Name + " " + numberOf(v.Obj) + " from " + boundOf(v.Lo) + " to " + boundOf(v.Hi) + map[bool]string{true: " whole"}[v.Whole])
	}
	for _, row := range p.Rows {
		w.WriteString(" | " + row.Name + ":")
		for _, term := range row.Terms {
			w.WriteString(" " + numberOf(term.Coef) + "@" + strconv.Itoa(term.Var))
		}
		w.WriteString(" from " + boundOf(row.Lo) + " to " + boundOf(row.Hi))
	}
	return w.String()
}

// lines puts lines together to a text, each ended.
func lines(l ...string) string { return strings.Join(append(l, ""), "\n") }

// writes asks for a problem's text, and that the reader answers the problem's one form.
func writes(t *testing.T, p api.Problem, want ...string) {
	t.Helper()
	got, err := write.Write(p)
	if err != nil || got != lines(want...) {
		t.Errorf("Write(%s): %v\n%swant\n%s", told(p), err, got, lines(want...))
		return
	}
	isReadAs(t, got, told(model.Tidy(p)))
}

// isReadAs asks for the problem that the reader makes of a text.
func isReadAs(t *testing.T, text, want string) {
	t.Helper()
	if got, err := model.Read(text); err != nil || told(got) != want {
		t.Errorf("%sis read as %s, %v, want %s", text, told(got), err, want)
	}
}

// isRefused asks for ErrName, the very value, and for nothing beside it.
func isRefused(t *testing.T, p api.Problem) {
	t.Helper()
	if got, err := write.Write(p); err != api.ErrName || got != "" {
		t.Errorf("Write(%s): %q, %v, want ErrName", told(p), got, err)
	}
}

// term is a term by hand.
func term(place int, coef string) api.Term { return api.Term{Var: place, Coef: num(coef)} }

// usual is a variable of which a text says nothing but its name and its Obj.
func usual(name, obj string) api.Var { return api.Var{Name: name, Obj: num(obj), Lo: has("0")} }

// the chapter's problem.
func chapters() api.Problem {
	return api.Problem{
		Name:  "z",
		Const: num("-1/2"),
		Vars:  []api.Var{usual("x", "2"), {Name: "y", Lo: has("-3"), Hi: has("5/2"), Whole: true}, {Name: "v", Obj: num("-1/3")}},
		Rows: []api.Row{
			{Name: "a", Terms: []api.Term{term(0, "1"), term(1, "-1"), term(1, "-1")}, Lo: has("4")},
			{Name: "b", Lo: has("0"), Hi: has("1")},
			{Name: "c", Terms: []api.Term{term(0, "1")}},
			{Name: "d", Terms: []api.Term{term(2, "1")}, Lo: has("1"), Hi: has("1")},
		},
	}
}

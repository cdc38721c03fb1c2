package mps_test

import (
	"math/big"
	"reflect"
	"slices"
	"strconv"
	"strings"
	"testing"

	"vertex/api"
	"vertex/model"
	"vertex/mps"
)

// The tests hold the package against math/big; numbers go there and back limb by limb.
func bigOf(a api.Nat) *big.Int {
	n := new(big.Int)
	for _, limb := range slices.Backward(a) {
		n.Lsh(n, 64).Or(n, new(big.Int).SetUint64(limb))
	}
	return n
}

func toBig(a api.Rat) *big.Rat {
	num, den := bigOf(a.Num.Mag), bigOf(a.Den)
	if den.Sign() == 0 {
		return new(big.Rat)
	}
	if a.Num.Neg {
		num.Neg(num)
	}
	return new(big.Rat).SetFrac(num, den)
}

// fromBig tells a number in its one form.
func fromBig(n *big.Rat) api.Rat {
	limbs := func(n *big.Int) (a api.Nat) {
		for _, w := range new(big.Int).Abs(n).Bits() {
			a = append(a, uint64(w))
		}
		return a
	}
	return api.Rat{Num: api.Int{Neg: n.Sign() < 0, Mag: limbs(n.Num())}, Den: limbs(n.Denom())}
}

// num reads a number of a test's own.
func num(s string) api.Rat {
	n, ok := new(big.Rat).SetString(s)
	if !ok {
		panic("the test's own number is none: " + s)
	}
	return fromBig(n)
}

// has is a bound that is there, hasNot one that isn't, though a number stands in it.
func has(s string) api.Bound { return api.Bound{Has: true, At: num(s)} }

func hasNot(s string) api.Bound { return api.Bound{At: num(s)} }

// odd tells a number in another form: with a common divisor, and with limbs of nought at the end.
func odd(s string) api.Rat {
	a := num(s)
	times := func(a api.Nat) api.Nat {
		return append(fromBig(new(big.Rat).SetInt(new(big.Int).Mul(bigOf(a), big.NewInt(6)))).Num.Mag, 0, 0)
	}
	a.Num.Mag, a.Den = times(a.Num.Mag), times(a.Den)
	return a
}

// noughts are the ways in which nought is told.
func noughts() []api.Rat {
	return []api.Rat{{}, {Den: api.Nat{1}}, {Num: api.Int{Neg: true}, Den: api.Nat{3}}, {Num: api.Int{Mag: api.Nat{5}}}, {Num: api.Int{Neg: true, Mag: api.Nat{5}}, Den: api.Nat{0, 0}}, {Num: api.Int{Mag: api.Nat{0, 0}}, Den: api.Nat{7}}}
}

// numberOf tells a number by its very fields, so that another form is another text.
func numberOf(a api.Rat) string {
	s := bigOf(a.Num.Mag).String()
	if a.Num.Neg {
		s = "-" + s
	}
	for _, l := range []api.Nat{a.Num.Mag, a.Den} {
		if n := len(l); n > 0 && l[n-1] == 0 {
			s += " with noughts"
		}
	}
	if slices.Equal(a.Den, api.Nat{1}) {
		return s
	}
	return s + "/" + bigOf(a.Den).String()
}

// boundOf tells a bound; what stands in one that isn't there has to be nought.
func boundOf(b api.Bound) string {
	switch {
	case b.Has:
		return numberOf(b.At)
	case reflect.DeepEqual(b, api.Bound{}) || numberOf(b.At) == "0":
		return "none"
	}
	return "none, but " + numberOf(b.At)
}

// told writes a problem out, all of it: a variable with its Obj and its bounds, a row with its terms, each as its coefficient and its variable's place.
func told(p api.Problem) string {
	var w strings.Builder
	w.WriteString(map[bool]string{false: "min ", true: "max "}[p.Max] + p.Name + ": " + numberOf(p.Const))
	for _, v := range p.Vars {
		w.WriteString(" | " + v.Name + " " + numberOf(v.Obj) + " from " + boundOf(v.Lo) + " to " + boundOf(v.Hi) + map[bool]string{true: " whole"}[v.Whole])
	}
	for _, row := range p.Rows {
		w.WriteString(" | " + row.Name + ":")
		for _, term := range row.Terms {
			w.WriteString(" " + numberOf(term.Coef) + "@" + strconv.Itoa(term.Var))
		}
		w.WriteString(" from " + boundOf(row.Lo) + " to " + boundOf(row.Hi))
	}
	return w.String()
}

// lined makes a text of lines that are parted by bars, as the chapter shows them.
func lined(s string) string { return strings.ReplaceAll(s, "|", "\n") }

// reads asks for the problem of a text, which is told by its lines.
func reads(t *testing.T, s, want string) {
	t.Helper()
	isReadAs(t, lined(s), want)
}

func isReadAs(t *testing.T, text, want string) {
	t.Helper()
	p, err := mps.Read(text)
	if err != nil || told(p) != want {
		t.Errorf("%q is read as %s, %v, want %s", text, told(p), err, want)
	}
}

// place is where a fault is, and why.
type place struct {
	line, col int
	why       error
}

// faultOf gives the place of an error; it has to be a *api.Fault itself.
func faultOf(err error) place {
	f, ok := err.(*api.Fault)
	if !ok {
		return place{why: err}
	}
	return place{f.Line, f.Col, f.Err}
}

// fails asks for a text's fault, and for nothing beside it.
func fails(t *testing.T, s string, line, col int, why error) {
	t.Helper()
	isRefusedAt(t, lined(s), place{line, col, why})
}

func isRefusedAt(t *testing.T, text string, want place) {
	t.Helper()
	p, err := mps.Read(text)
	if faultOf(err) != want || !reflect.DeepEqual(p, api.Problem{}) {
		t.Errorf("%q: %s, %v, want %d:%d %v", text, told(p), err, want.line, want.col, want.why)
	}
}

// writes asks for a problem's text, which is told by its lines, and that it is read as the problem's one form.
func writes(t *testing.T, p api.Problem, want string) {
	t.Helper()
	got, err := mps.Write(p)
	if err != nil || got != lined(want) {
		t.Errorf("Write(%s): %v\n%swant\n%s", told(p), err, got, lined(want))
		return
	}
	isReadAs(t, got, told(model.Tidy(p)))
}

// isRefused asks for ErrName, the very value, and for nothing beside it.
func isRefused(t *testing.T, p api.Problem) {
	t.Helper()
	if got, err := mps.Write(p); err != api.ErrName || got != "" {
		t.Errorf("Write(%s): %q, %v, want ErrName", told(p), got, err)
	}
}

// term is a term by hand.
func term(place int, coef string) api.Term { return api.Term{Var: place, Coef: num(coef)} }

// usual is a variable of which a text says nothing but its name and its Obj.
func usual(name, obj string) api.Var { return api.Var{Name: name, Obj: num(obj), Lo: has("0")} }

// the chapter's problem.
func chapters() api.Problem {
	return api.Problem{
		Max:   true,
		Const: num("1"),
		Vars:  []api.Var{{Name: "x", Obj: num("2"), Lo: has("0"), Hi: has("3"), Whole: true}},
		Rows:  []api.Row{{Name: "r", Terms: []api.Term{term(0, "1")}, Hi: has("5/2")}},
	}
}

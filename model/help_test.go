package model_test

import (
	"math/big"
	"reflect"
	"slices"
	"strconv"
	"strings"
	"testing"

	"vertex/api"
	"vertex/model"
)

// The tests hold the package against math/big; numbers go there and back limb by limb.
func bigOf(a api.Nat) *big.Int {
	n := new(big.Int)
	for _, limb := range slices.Backward(a) {
		n.Lsh(n, 64).Or(n, new(big.Int).SetUint64(limb))
	}
	return n
}

func toBig(a api.Rat) *big.Rat {
	num, den := bigOf(a.Num.Mag), bigOf(a.Den)
	if den.Sign() == 0 {
		return new(big.Rat)
	}
	if a.Num.Neg {
		num.Neg(num)
	}
	return new(big.Rat).SetFrac(num, den)
}

// fromBig tells a number in its one form.
func fromBig(n *big.Rat) api.Rat {
	limbs := func(n *big.Int) (a api.Nat) {
		for _, w := range new(big.Int).Abs(n).Bits() {
			a = append(a, uint64(w))
		}
		return a
	}
	return api.Rat{Num: api.Int{Neg: n.Sign() < 0, Mag: limbs(n.Num())}, Den: limbs(n.Denom())}
}

// num reads a number of a test's own.
func num(s string) api.Rat {
	n, ok := new(big.Rat).SetString(s)
	if !ok {
		panic("the test's own number is none: " + s)
	}
	return fromBig(n)
}

// list reads numbers that stand apart by blanks.
func list(s string) (l []api.Rat) {
	for _, x := range strings.Fields(s) {
		l = append(l, num(x))
	}
	return l
}

// has is a bound that is there, hasNot one that isn't, though a number stands in it.
func has(s string) api.Bound { return api.Bound{Has: true, At: num(s)} }

func hasNot(s string) api.Bound { return api.Bound{At: num(s)} }

// odd tells a number in another form: with a common divisor, and with limbs of nought at the end.
func odd(s string) api.Rat {
	a := num(s)
	times := func(a api.Nat) api.Nat {
		return append(fromBig(new(big.Rat).SetInt(new(big.Int).Mul(bigOf(a), big.NewInt(6)))).Num.Mag, 0, 0)
	}
	a.Num.Mag, a.Den = times(a.Num.Mag), times(a.Den)
	return a
}

// noughts are the ways in which nought is told.
func noughts() []api.Rat {
	return []api.Rat{{}, {Den: api.Nat{1}}, {Num: api.Int{Neg: true}, Den: api.Nat{3}}, {Num: api.Int{Mag: api.Nat{5}}}, {Num: api.Int{Neg: true, Mag: api.Nat{5}}, Den: api.Nat{0, 0}}, {Num: api.Int{Mag: api.Nat{0, 0}}, Den: api.Nat{7}}}
}

// numberOf tells a number by its very fields, so that another form is another text.
func numberOf(a api.Rat) string {
	s := bigOf(a.Num.Mag).String()
	if a.Num.Neg {
		s = "-" + s
	}
	for _, l := range []api.Nat{a.Num.Mag, a.Den} {
		if n := len(l); n > 0 && l[n-1] == 0 {
			s += " with noughts"
		}
	}
	if slices.Equal(a.Den, api.Nat{1}) {
		return s
	}
	return s + "/" + bigOf(a.Den).String()
}

func numbersOf(l []api.Rat) string {
	var s []string
	for _, a := range l {
		s = append(s, numberOf(a))
	}
	return strings.Join(s, " ")
}

// boundOf tells a bound; what stands in one that isn't there has to be nought.
func boundOf(b api.Bound) string {
	switch {
	case b.Has:
		return numberOf(b.At)
	case reflect.DeepEqual(b, api.Bound{}) || numberOf(b.At) == "0":
		return "none"
	}
	return "none, but " + numberOf(b.At)
}

// told writes a problem out, all of it: a variable with its Obj and its bounds, a row with its terms, each as its coefficient and its variable's place.
func told(p api.Problem) string {
	var w strings.Builder
	w.WriteString(map[bool]string{false: "min ", true: "max "}[p.Max] + p.Name + ": " + numberOf(p.Const))
	for _, v := range p.Vars {
		w.WriteString(" | " + v.Name + " " + numberOf(v.Obj) + " from " + boundOf(v.Lo) + " to " + boundOf(v.Hi) + map[bool]string{true: " whole"}[v.Whole])
	}
	for _, row := range p.Rows {
		w.WriteString(" | " + row.Name + ":")
		for _, term := range row.Terms {
			w.WriteString(" " + numberOf(term.Coef) + "@" + strconv.Itoa(term.Var))
		}
		w.WriteString(" from " + boundOf(row.Lo) + " to " + boundOf(row.Hi))
	}
	return w.String()
}

// isEmpty tells whether a problem is the zero value, as it has to be beside an error.
func isEmpty(p api.Problem) bool {
	return !p.Max && p.Name == "" && reflect.DeepEqual(p.Const, api.Rat{}) && len(p.Vars)+len(p.Rows) == 0
}

// reads asks for the problem of a text.
func reads(t *testing.T, s, want string) {
	t.Helper()
	if got, err := model.Read(s); err != nil || told(got) != want {
		t.Errorf("Read(%q): %s, %v, want %s", s, told(got), err, want)
	}
}

// builds asks for the problem of what a text says, or would say.
func builds(t *testing.T, text api.Text, want string) {
	t.Helper()
	if got, err := model.Build(text); err != nil || told(got) != want {
		t.Errorf("Build(%v): %s, %v, want %s", text, told(got), err, want)
	}
}

// isFault asks for a fault, itself and not wrapped, and for nothing beside it.
func isFault(t *testing.T, what string, got api.Problem, err error, want api.Fault) {
	t.Helper()
	if f, ok := err.(*api.Fault); !ok || *f != want {
		t.Errorf("%s: %v, want %v", what, err, want.Error())
	}
	if !isEmpty(got) {
		t.Errorf("%s: %s beside a fault", what, told(got))
	}
}

// failsAt asks for a fault at the mark '^' of a text, which is cut out ahead of the call.
func failsAt(t *testing.T, marked string, want error) {
	t.Helper()
	ahead, behind, ok := strings.Cut(marked, "^")
	if !ok || strings.Contains(behind, "^") {
		t.Fatalf("%q has no mark, or two", marked)
	}
	got, err := model.Read(ahead + behind)
	isFault(t, ahead+behind, got, err, api.Fault{Line: 1 + strings.Count(ahead, "\n"), Col: len(ahead) - strings.LastIndex(ahead, "\n"), Err: want})
}

// item, claim, limit and mentions are parts of what a text says, without places.
func item(coef, name string) api.Item { return api.Item{Coef: num(coef), Name: name} }

func claim(name string, lo, hi api.Bound, items ...api.Item) api.Claim {
	return api.Claim{Name: name, Items: items, Lo: lo, Hi: hi}
}

func mentions(names ...string) (l []api.Mention) {
	for _, name := range names {
		l = append(l, api.Mention{Name: name})
	}
	return l
}

// the chapter's problem: min x + 2 y with rows 1 <= x + y <= 3, x - y = 0, x from 0, y from 0 to 1 and Whole.
func chapters() api.Problem {
	return api.Problem{
		Vars: []api.Var{{Name: "x", Obj: num("1"), Lo: has("0")}, {Name: "y", Obj: num("2"), Lo: has("0"), Hi: has("1"), Whole: true}},
		Rows: []api.Row{
			{Name: "a", Terms: []api.Term{{Var: 0, Coef: num("1")}, {Var: 1, Coef: num("1")}}, Lo: has("1"), Hi: has("3")},
			{Name: "b", Terms: []api.Term{{Var: 0, Coef: num("1")}, {Var: 1, Coef: num("-1")}}, Lo: has("0"), Hi: has("0")},
		},
	}
}

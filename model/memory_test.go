package model_test

import (
	"reflect"
	"strings"
	"testing"
	"unsafe"

	"vertex/api"
	"vertex/model"
)

// full is a text of all kinds of parts, whose numbers go to several places each.
const full = "max z: 3 x + 3 x - 1/2 y + x - x + 5 + 5 st" +
	" c1: x + 2 y + 1 - 1 = 1/2 1/2 = x 3 <= x - y + 1 <= 3 3 >= 2 + 2 >= 3 1 + 1/3 = 2 0 <= x <= 0 18446744073709551616 <= x x <= inf" +
	" bounds x = 1/2 1/2 = y 3 <= x <= 3 w free y <= 18446744073709551616 - inf <= x <= 0" +
	" int x y x bin u v y end"

// piece is where a list lies, spare room too.
type piece struct {
	at   uintptr
	size uintptr
}

// piecesOf finds all lists and texts in a value, however deep, numbers' limbs among them.
func piecesOf(v reflect.Value) (l []piece) {
	switch v.Kind() {
	case reflect.Struct:
		for i := range v.NumField() {
			l = append(l, piecesOf(v.Field(i))...)
		}
	case reflect.Array:
		for i := range v.Len() {
			l = append(l, piecesOf(v.Index(i))...)
		}
	case reflect.Slice:
		if v.Cap() > 0 {
			l = append(l, piece{v.Pointer(), uintptr(v.Cap()) * v.Type().Elem().Size()})
		}
		for i := range v.Len() {
			l = append(l, piecesOf(v.Index(i))...)
		}
	case reflect.String:
		if v.Len() > 0 {
			l = append(l, piece{uintptr(unsafe.Pointer(unsafe.StringData(v.String()))), uintptr(v.Len())})
		}
	}
	return l
}

// shares tells whether two lists overlap.
func shares(a, b piece) bool { return a.at < b.at+b.size && b.at < a.at+a.size }

// roomy copies a value, all its lists with spare room behind them, and its texts too.
func roomy(v reflect.Value) reflect.Value {
	c := reflect.New(v.Type()).Elem()
	switch v.Kind() {
	case reflect.Struct:
		for i := range v.NumField() {
			c.Field(i).Set(roomy(v.Field(i)))
		}
	case reflect.Slice:
		if v.IsNil() {
			return c
		}
		c = reflect.MakeSlice(v.Type(), v.Len(), v.Len()+3)
		for i := range v.Len() {
			c.Index(i).Set(roomy(v.Index(i)))
		}
	case reflect.String:
		c.SetString(strings.Clone(v.String()))
	default:
		c.Set(v)
	}
	return c
}

func copyOf[T any](a T) T { return roomy(reflect.ValueOf(a)).Interface().(T) }

// spoil writes over all lists of a value, spare room too.
func spoil(v reflect.Value) {
	switch v.Kind() {
	case reflect.Struct:
		for i := range v.NumField() {
			spoil(v.Field(i))
		}
	case reflect.Slice:
		v = v.Slice(0, v.Cap())
		for i := range v.Len() {
			spoil(v.Index(i))
		}
	case reflect.Uint64:
		v.SetUint(0xabcdef)
	case reflect.Int:
		v.SetInt(-7)
	case reflect.String:
		v.SetString("spoilt")
	case reflect.Bool:
		v.SetBool(!v.Bool())
	}
}

// room shows a value with its lists' spare room as elements.
func room(v reflect.Value) reflect.Value {
	c := reflect.New(v.Type()).Elem()
	switch v.Kind() {
	case reflect.Struct:
		for i := range v.NumField() {
			c.Field(i).Set(room(v.Field(i)))
		}
	case reflect.Slice:
		if v.Cap() == 0 {
			return c
		}
		c = reflect.MakeSlice(v.Type(), v.Cap(), v.Cap())
		for i := range v.Cap() {
			c.Index(i).Set(room(v.Slice(0, v.Cap()).Index(i)))
		}
	default:
		c.Set(v)
	}
	return c
}

// snapshot holds a value, its lists' spare room too, and tells whether it is as it was.
func snapshot[T any](a *T) (unchanged func() bool) {
	shown := func() any { return room(reflect.ValueOf(a).Elem()).Interface() }
	before := shown()
	return func() bool { return reflect.DeepEqual(shown(), before) }
}

// argument is all that a call may be handed, answered all that it may answer.
type argument struct {
	Text    api.Text
	Problem api.Problem
	X       []api.Rat
	S       string
}

type answered struct {
	Problem api.Problem
	Sums    []api.Rat
	Value   api.Rat
}

// byHand are arguments whose numbers are often alike, so that what is copied once too seldom is seen.
func byHand() argument {
	p := model.Tidy(chapters())
	p.Name, p.Const = "z", num("1/3")
	p.Rows[0].Terms = append(p.Rows[0].Terms, api.Term{Var: 0, Coef: odd("2")}, api.Term{Var: 5, Coef: odd("2")})
	p.Rows = append(p.Rows, api.Row{Name: "one", Terms: []api.Term{term(1, "1")}, Lo: hasNot("3"), Hi: has("9")})
	return copyOf(argument{
		Text: api.Text{
			Name:   "z",
			Items:  []api.Item{{Coef: num("7"), Name: "x"}, {Coef: odd("7"), Name: "y"}, {Coef: num("7")}},
			Claims: []api.Claim{{Name: "c", Items: []api.Item{{Coef: num("7"), Name: "x"}, {Coef: num("2")}}, Lo: has("7"), Hi: has("7")}, {Items: []api.Item{{Coef: num("3"), Name: "v"}}, Lo: has("7"), Hi: hasNot("8")}},
			Limits: []api.Limit{{Name: "x", SetLo: true, SetHi: true, Lo: has("7"), Hi: has("7")}, {Name: "w", SetHi: true, Lo: has("3"), Hi: has("1/3")}},
			Wholes: mentions("x", "u"),
			Twos:   mentions("y", "u"),
		},
		Problem: p,
		X:       []api.Rat{odd("1/2"), num("1"), num("3")},
		S:       full,
	})
}

// calls are all of the package's.
var calls = map[string]func(a argument) answered{
	"Build": func(a argument) (b answered) {
		b.Problem, _ = model.Build(a.Text)
		return b
	},
	"Build, refused": func(a argument) (b answered) {
		a.Text.Name = a.Text.Claims[0].Name
		b.Problem, _ = model.Build(a.Text)
		return b
	},
	"Read":  func(a argument) (b answered) { b.Problem, _ = model.Read(a.S); return b },
	"Tidy":  func(a argument) answered { return answered{Problem: model.Tidy(a.Problem)} },
	"Sums":  func(a argument) answered { return answered{Sums: model.Sums(a.Problem, a.X)} },
	"Value": func(a argument) answered { return answered{Value: model.Value(a.Problem, a.X)} },
	"Value, Const alone": func(a argument) answered {
		return answered{Value: model.Value(api.Problem{Const: a.Problem.Const}, a.X)}
	},
	"Holds, Whole": func(a argument) answered {
		model.Holds(a.Problem, a.X[:2])
		model.Whole(a.Problem, a.X[:2])
		return answered{}
	},
}

// R3: no two lists of an answer share memory, nor does one share it with another answer or with what was handed in, spare room neither.
func TestAnswersShareNothing(t *testing.T) {
	lists := 0
	for name, call := range calls {
		a := byHand()
		one, two := call(a), call(a)
		handed := piecesOf(reflect.ValueOf(a))
		all := piecesOf(reflect.ValueOf([2]answered{one, two}))
		lists += len(all)
		for i, x := range all {
			for _, y := range append(handed, all[:i]...) {
				if shares(x, y) {
					t.Fatalf("%s: two lists share memory: %v, %v", name, x, y)
				}
			}
		}
	}
	if lists < 300 {
		t.Fatalf("only %d lists", lists)
	}
}

// R3: what is handed in stays as it was, spare room too, also when the answer is written over.
func TestNothingHandedInIsChanged(t *testing.T) {
	for name, call := range calls {
		a := byHand()
		unchanged := snapshot(&a)
		b := call(a)
		if !unchanged() {
			t.Fatalf("%s changed what it was handed", name)
		}
		spoil(reflect.ValueOf(&b).Elem())
		if !unchanged() {
			t.Fatalf("%s answers what it was handed", name)
		}
	}
}

// R3, R4: an answer stays as it was, when what was handed in and another answer are written over; and the next one is the same.
func TestNothingIsKept(t *testing.T) {
	for name, call := range calls {
		a := byHand()
		first := call(a)
		unchanged := snapshot(&first)
		second := call(a)
		spoil(reflect.ValueOf(&a).Elem())
		spoil(reflect.ValueOf(&second).Elem())
		if !unchanged() {
			t.Fatalf("%s: an answer has changed", name)
		}
		if third := call(byHand()); !reflect.DeepEqual(third, first) {
			t.Fatalf("%s: %v, and then %v", name, first, third)
		}
	}
}

// R2: two faults are two values, and what is done to one doesn't change the other.
func TestFaultsAreNew(t *testing.T) {
	for _, s := range []string{"min a: st a: x >= 1 end", "min st x <= y end"} {
		_, one := model.Read(s)
		a, ok := one.(*api.Fault)
		if !ok {
			t.Fatalf("Read(%q): %v", s, one)
		}
		want := *a
		*a = api.Fault{}
		if _, two := model.Read(s); *two.(*api.Fault) != want {
			t.Errorf("Read(%q), once its fault was written over: %v", s, two)
		}
	}
}

// R3: the list of numbers and the problem may be parts of one another.
func TestArgumentsThatShareMemory(t *testing.T) {
	one := odd("3")
	p := api.Problem{Const: one, Vars: []api.Var{{Obj: one, Lo: api.Bound{Has: true, At: one}, Hi: api.Bound{Has: true, At: one}}}}
	terms := []api.Term{{Var: 0, Coef: one}, {Var: 0, Coef: one}, {Var: 0, Coef: one}}
	for i := range terms {
		p.Rows = append(p.Rows, api.Row{Terms: terms[:i+1], Lo: p.Vars[0].Lo})
	}
	unchanged := snapshot(&p)
	comes(t, p, []api.Rat{one}, "12", "9 18 27")
	judged(t, p, []api.Rat{one}, true, true)
	tidies(t, p, "min : 3 |  3 from 3 to 3 | : 3@0 from 3 to none | : 6@0 from 3 to none | : 9@0 from 3 to none")
	if !unchanged() {
		t.Error("the problem has changed")
	}
}

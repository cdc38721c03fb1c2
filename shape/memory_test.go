package shape_test

import (
	"reflect"
	"strings"
	"testing"
	"unsafe"

	"vertex/api"
	"vertex/shape"
)

// piece is where a list lies, spare room too.
type piece struct {
	at   uintptr
	size uintptr
}

// piecesOf finds all lists and texts in a value, however deep, numbers' limbs among them.
func piecesOf(v reflect.Value) (l []piece) {
	switch v.Kind() {
	case reflect.Struct:
		for i := range v.NumField() {
			l = append(l, piecesOf(v.Field(i))...)
		}
	case reflect.Array:
		for i := range v.Len() {
			l = append(l, piecesOf(v.Index(i))...)
		}
	case reflect.Slice:
		if v.Cap() > 0 {
			l = append(l, piece{v.Pointer(), uintptr(v.Cap()) * v.Type().Elem().Size()})
		}
		for i := range v.Len() {
			l = append(l, piecesOf(v.Index(i))...)
		}
	case reflect.String:
		if v.Len() > 0 {
			l = append(l, piece{uintptr(unsafe.Pointer(unsafe.StringData(v.String()))), uintptr(v.Len())})
		}
	}
	return l
}

// shares tells whether two lists overlap.
func shares(a, b piece) bool { return a.at < b.at+b.size && b.at < a.at+a.size }

// roomy copies a value, all its lists with spare room behind them, and its texts too.
func roomy(v reflect.Value) reflect.Value {
	c := reflect.New(v.Type()).Elem()
	switch v.Kind() {
	case reflect.Struct:
		for i := range v.NumField() {
			c.Field(i).Set(roomy(v.Field(i)))
		}
	case reflect.Slice:
		if v.IsNil() {
			return c
		}
		c = reflect.MakeSlice(v.Type(), v.Len(), v.Len()+3)
		for i := range v.Len() {
			c.Index(i).Set(roomy(v.Index(i)))
		}
	case reflect.String:
		c.SetString(strings.Clone(v.String()))
	default:
		c.Set(v)
	}
	return c
}

func copyOf[T any](a T) T { return roomy(reflect.ValueOf(a)).Interface().(T) }

// spoil writes over all lists of a value, spare room too.
func spoil(v reflect.Value) {
	switch v.Kind() {
	case reflect.Struct:
		for i := range v.NumField() {
			spoil(v.Field(i))
		}
	case reflect.Slice:
		v = v.Slice(0, v.Cap())
		for i := range v.Len() {
			spoil(v.Index(i))
		}
	case reflect.Uint64:
		v.SetUint(0xabcdef)
	case reflect.Int:
		v.SetInt(-7)
	case reflect.String:
		v.SetString("spoilt")
	case reflect.Bool:
		v.SetBool(!v.Bool())
	}
}

// room shows a value with its lists' spare room as elements.
func room(v reflect.Value) reflect.Value {
	c := reflect.New(v.Type()).Elem()
	switch v.Kind() {
	case reflect.Struct:
		for i := range v.NumField() {
			c.Field(i).Set(room(v.Field(i)))
		}
	case reflect.Slice:
		if v.Cap() == 0 {
			return c
		}
		c = reflect.MakeSlice(v.Type(), v.Cap(), v.Cap())
		for i := range v.Cap() {
			c.Index(i).Set(room(v.Slice(0, v.Cap()).Index(i)))
		}
	default:
		c.Set(v)
	}
	return c
}

// snapshot holds a value, its lists' spare room too, and tells whether it is as it was.
func snapshot[T any](a *T) (unchanged func() bool) {
	shown := func() any { return room(reflect.ValueOf(a).Elem()).Interface() }
	before := shown()
	return func() bool { return reflect.DeepEqual(shown(), before) }
}

// byHand is a problem of all kinds of parts, with room behind its lists, in no one form.
func byHand() api.Problem {
	p := many()
	p.Max, p.Const = true, odd("7/3")
	p.Vars[0].Obj, p.Vars[2].Obj, p.Vars[3].Obj = odd("-1/2"), odd("5"), odd("18446744073709551616")
	p.Vars = append(p.Vars, api.Var{Obj: odd("3"), Lo: hasNot("7"), Hi: api.Bound{Has: true, At: odd("18446744073709551616")}})
	p.Rows = append(p.Rows, api.Row{Terms: []api.Term{{Var: 9, Coef: odd("2")}, {Var: 3, Coef: odd("-2/3")}, {Var: -1}, {Var: 0}, {Var: 0, Coef: odd("5")}}, Lo: api.Bound{Has: true, At: odd("2")}, Hi: has("8")})
	return copyOf(p)
}

// numbersByHand are as many numbers as the standard of byHand has columns, and some more, in no one form, with room behind them.
func numbersByHand() []api.Rat {
	l := append(noughts(), odd("3"), odd("-1/2"), num("18446744073709551616"), odd("-36893488147419103232/5"))
	return copyOf(append(l, append(l, l...)...))
}

func problems() map[string]api.Problem {
	return map[string]api.Problem{"all kinds": byHand(), "the chapter's": second(), "nothing": {}}
}

// answers are all that may be asked of a shape.
type answers struct {
	Standard                api.Standard
	Point, Ray, Mult, Start []api.Rat
}

func ask(s *shape.Shape, y []api.Rat) answers {
	return answers{s.Standard(), s.Point(y), s.Ray(y), s.Mult(y), s.Point(nil)}
}

// toldOf writes answers out, all of them.
func toldOf(a answers) string {
	return shown(a.Standard) + " | " + numbersOf(a.Point) + " | " + numbersOf(a.Ray) + " | " + numbersOf(a.Mult) + " | " + numbersOf(a.Start)
}

// wanted are the answers by the second telling.
func wanted(p api.Problem, y []api.Rat) string {
	return toldOf(answers{standardOf(p), pointOf(p, y), rayOf(p, y), multOf(p, y), pointOf(p, nil)})
}

// sharing gives two of some lists that overlap, or of which one overlaps what was handed in.
func sharing(answer, handed []piece) (a, b piece, found bool) {
	for i, x := range answer {
		for _, y := range append(answer[i+1:len(answer):len(answer)], handed...) {
			if shares(x, y) {
				return x, y, true
			}
		}
	}
	return piece{}, piece{}, false
}

// R3: answers share no memory with one another, those of the same call and of another one of the same shape, nor with what was handed in; no two lists of one do.
func TestAnswersShareNothing(t *testing.T) {
	for name, p := range problems() {
		y := numbersByHand()
		s := shape.Make(p)
		one, two := ask(s, y), ask(s, y)
		handed := append(piecesOf(reflect.ValueOf(p)), piecesOf(reflect.ValueOf(y))...)
		handed = append(handed, piecesOf(reflect.ValueOf(two))...)
		if a, b, found := sharing(piecesOf(reflect.ValueOf(one)), handed); found {
			t.Errorf("%s: an answer shares memory: %v, %v", name, a, b)
		}
	}
}

// R3: what is handed in stays as it was, spare room too.
func TestNothingHandedInIsChanged(t *testing.T) {
	for name, p := range problems() {
		y := numbersByHand()
		same, sameY := snapshot(&p), snapshot(&y)
		if ask(shape.Make(p), y); !same() || !sameY() {
			t.Errorf("%s: the problem is as it was: %v; the list: %v", name, same(), sameY())
		}
	}
}

// R3, R4: a problem is not looked at again behind Make, nor a list behind its call; what came out may be written over, and the next answers are the same.
func TestNothingIsKept(t *testing.T) {
	for name, p := range problems() {
		want := wanted(p, numbersByHand())
		s := shape.Make(p)
		spoil(reflect.ValueOf(&p).Elem())
		for range 3 {
			y := numbersByHand()
			got := ask(s, y)
			spoil(reflect.ValueOf(&y).Elem())
			if toldOf(got) != want {
				t.Errorf("%s:\n%s, want\n%s", name, toldOf(got), want)
			}
			spoil(reflect.ValueOf(&got).Elem())
		}
	}
}

// R4: two shapes side by side know nothing of one another, whatever the order in which they are made and asked.
func TestTwoShapes(t *testing.T) {
	r := chances(104)
	for range 300 {
		p, _ := r.problem()
		q, _ := r.problem()
		y, z := r.numbers(r.Intn(12)), r.numbers(r.Intn(12))
		one, two := shape.Make(p), shape.Make(q)
		again := shape.Make(p)
		for range 2 {
			for _, x := range []struct {
				s *shape.Shape
				p api.Problem
				y []api.Rat
			}{{one, p, y}, {two, q, z}, {again, p, z}, {two, q, y}, {one, p, z}} {
				if got, want := toldOf(ask(x.s, x.y)), wanted(x.p, x.y); got != want {
					t.Fatalf("%s:\n%s, want\n%s", told(x.p), got, want)
				}
			}
		}
	}
}

// R3: a problem's lists and numbers may be parts of one another, and a standard's list may be handed in again.
func TestListsThatShareMemory(t *testing.T) {
	three := odd("3")
	bound := api.Bound{Has: true, At: three}
	terms := []api.Term{{Coef: three}, {Var: 1, Coef: three}, {Coef: three}}
	p := api.Problem{
		Const: three,
		Vars:  []api.Var{{Obj: three, Lo: bound, Hi: bound}, {Obj: three, Hi: bound}, {Obj: three}},
		Rows:  []api.Row{{Terms: terms[:1], Lo: bound}, {Terms: terms[:2], Hi: bound}, {Terms: terms, Lo: bound, Hi: bound}},
	}
	unchanged := snapshot(&p)
	stands(t, p, "3 0 0 0 -1 0 0 = -6; 3 -3 0 0 0 1 0 = -15; 6 -3 0 0 0 0 0 = -24; 1 0 0 0 0 0 1 = 0; C 3 -3 3 -3 0 0 0; K 21")
	s := shape.Make(p)
	y := s.Standard().C
	if got := numbersOf(s.Point(y)) + ", " + numbersOf(s.Ray(y)) + ", " + numbersOf(s.Mult(y)); got != "6 6 6, 3 3 6, 3 -3 3" || !unchanged() {
		t.Errorf("%s; the problem is as it was: %v", got, unchanged())
	}
}

// Many may ask one shape at the same time: nothing is written in it behind Make.
func TestAskedSideBySide(t *testing.T) {
	s, want := shape.Make(byHand()), wanted(byHand(), numbersByHand())
	got := make(chan string)
	for range 8 {
		go func() { got <- toldOf(ask(s, numbersByHand())) }()
	}
	for range 8 {
		if a := <-got; a != want {
			t.Errorf("%s, want %s", a, want)
		}
	}
}

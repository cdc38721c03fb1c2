package back_test

import (
	"reflect"
	"strings"
	"testing"
	"unsafe"

	"vertex/api"
	"vertex/back"
	"vertex/shape"
)

// piece is where a list lies, spare room too.
type piece struct {
	at   uintptr
	size uintptr
}

// piecesOf finds all lists and texts in a value, however deep, numbers' limbs among them.
func piecesOf(v reflect.Value) (l []piece) {
	switch v.Kind() {
	case reflect.Struct:
		for i := range v.NumField() {
			l = append(l, piecesOf(v.Field(i))...)
		}
	case reflect.Slice:
		if v.Cap() > 0 {
			l = append(l, piece{v.Pointer(), uintptr(v.Cap()) * v.Type().Elem().Size()})
		}
		for i := range v.Len() {
			l = append(l, piecesOf(v.Index(i))...)
		}
	case reflect.String:
		if v.Len() > 0 {
			l = append(l, piece{uintptr(unsafe.Pointer(unsafe.StringData(v.String()))), uintptr(v.Len())})
		}
	}
	return l
}

// piecesOfAll finds all lists in some values. They are to be made ahead of it, all of them: what nobody holds any more may lend its place to what is made next.
func piecesOfAll(values []any) (l []piece) {
	for _, x := range values {
		l = append(l, piecesOf(reflect.ValueOf(x))...)
	}
	return l
}

// shares tells whether two lists overlap.
func shares(a, b piece) bool { return a.at < b.at+b.size && b.at < a.at+a.size }

// roomy copies a value, all its lists with spare room behind them, and its texts too.
func roomy(v reflect.Value) reflect.Value {
	c := reflect.New(v.Type()).Elem()
	switch v.Kind() {
	case reflect.Struct:
		for i := range v.NumField() {
			c.Field(i).Set(roomy(v.Field(i)))
		}
	case reflect.Slice:
		if v.IsNil() {
			return c
		}
		c = reflect.MakeSlice(v.Type(), v.Len(), v.Len()+3)
		for i := range v.Len() {
			c.Index(i).Set(roomy(v.Index(i)))
		}
	case reflect.String:
		c.SetString(strings.Clone(v.String()))
	default:
		c.Set(v)
	}
	return c
}

func copyOf[T any](a T) T { return roomy(reflect.ValueOf(a)).Interface().(T) }

// spoil writes over all lists of a value, spare room too.
func spoil(v reflect.Value) {
	switch v.Kind() {
	case reflect.Struct:
		for i := range v.NumField() {
			spoil(v.Field(i))
		}
	case reflect.Slice:
		v = v.Slice(0, v.Cap())
		for i := range v.Len() {
			spoil(v.Index(i))
		}
	case reflect.Uint64:
		v.SetUint(0xabcdef)
	case reflect.Int:
		v.SetInt(-7)
	case reflect.String:
		v.SetString("spoilt")
	case reflect.Bool:
		v.SetBool(!v.Bool())
	}
}

func spoilt[T any](a *T) { spoil(reflect.ValueOf(a).Elem()) }

// room shows a value with its lists' spare room as elements.
func room(v reflect.Value) reflect.Value {
	c := reflect.New(v.Type()).Elem()
	switch v.Kind() {
	case reflect.Struct:
		for i := range v.NumField() {
			c.Field(i).Set(room(v.Field(i)))
		}
	case reflect.Slice:
		if v.Cap() == 0 {
			return c
		}
		c = reflect.MakeSlice(v.Type(), v.Cap(), v.Cap())
		for i := range v.Cap() {
			c.Index(i).Set(room(v.Slice(0, v.Cap()).Index(i)))
		}
	default:
		c.Set(v)
	}
	return c
}

// snapshot holds a value, its lists' spare room too, and tells whether it is as it was.
func snapshot[T any](a *T) (unchanged func() bool) {
	shown := func() any { return room(reflect.ValueOf(a).Elem()).Interface() }
	before := shown()
	return func() bool { return reflect.DeepEqual(shown(), before) }
}

// byHand are problems of each verdict, in either sense, with room behind their lists, in no one form.
func byHand() []api.Problem {
	great := api.Bound{Has: true, At: odd("18446744073709551616")}
	optimal := api.Problem{
		Max:   true,
		Name:  "profit",
		Const: odd("1/2"),
		Vars:  []api.Var{{Name: "x", Obj: odd("3"), Lo: api.Bound{Has: true, At: noughts()[3]}, Hi: great}, {Name: "y", Obj: odd("5"), Hi: great}, {Name: "z", Obj: odd("-1/3"), Lo: hasNot("2")}},
		Rows: []api.Row{
			{Name: "a", Terms: []api.Term{{Var: 0, Coef: odd("1")}, {Var: 1, Coef: odd("1")}, {Var: 7, Coef: odd("1")}}, Hi: api.Bound{Has: true, At: odd("4")}},
			{Name: "b", Terms: []api.Term{{Var: 0, Coef: odd("1")}, {Var: 1, Coef: odd("3")}}, Lo: api.Bound{Has: true, At: odd("-6")}, Hi: api.Bound{Has: true, At: odd("6")}},
			{Name: "c", Terms: []api.Term{{Var: 2, Coef: odd("2")}, {Var: 2, Coef: odd("1")}, {Var: 1, Coef: noughts()[4]}}, Lo: great, Hi: great},
			{Name: "d"},
		},
	}
	nowhere := copyOf(optimal)
	nowhere.Rows = append(nowhere.Rows, api.Row{Name: "e", Terms: []api.Term{{Var: 0, Coef: odd("2")}}, Lo: api.Bound{Has: true, At: odd("36893488147419103233")}})
	endless := copyOf(optimal)
	endless.Vars = append(endless.Vars, api.Var{Name: "w", Obj: odd("7")})
	l := []api.Problem{optimal, nowhere, endless, {}}
	for _, p := range l[:3] {
		p := copyOf(p)
		p.Max = false
		for j := range p.Vars {
			p.Vars[j].Obj = odd(turn(toBig(p.Vars[j].Obj)).RatString())
		}
		l = append(l, p)
	}
	return copyOf(l)
}

// outcomeByHand is an outcome of numbers of all forms, with room behind its lists.
func outcomeByHand(verdict int) api.Outcome {
	o := full(verdict)
	o.Value = odd("-18446744073709551616/3")
	o.Point = append(noughts(), odd("3"), num("18446744073709551616"))
	o.Mult = append(odds("3 -1/2 36893488147419103232/5"), num("5"), odd("-2"), num("8"))
	o.Ray = append(odds("-3 1/2 -36893488147419103232/5 7 2"), num("5"), odd("2"), num("8"))
	return copyOf(o)
}

// all are the verdicts, and some that are none.
func all() []int { return []int{api.Optimal, api.Infeasible, api.Unbounded, 0, api.Stopped, -1} }

// The problems of these tests have each of the verdicts, in either sense.
func TestByHand(t *testing.T) {
	count := map[string]int{}
	for _, p := range byHand() {
		c := back.Solve(p)
		holdsTrue(t, p, c)
		kinds(count, p, c)
	}
	enough(t, 1, count, "optimal min", "optimal max", "infeasible min", "infeasible max", "unbounded min", "unbounded max")
}

// R3: answers share no memory with one another, of the same call and of another one of the same shape, nor with what was handed in, nor with what the shape answers; no two lists of one answer do.
func TestAnswersShareNothing(t *testing.T) {
	var values []any
	add := func(x any) { values = append(values, x) }
	for _, p := range byHand() {
		add(p)
		add(back.Solve(p))
		add(back.Solve(p))
		s := shape.Make(p)
		add(s.Standard())
		for _, verdict := range all() {
			o := outcomeByHand(verdict)
			add(o)
			add(back.Of(p, s, o))
			add(back.Of(p, s, o))
		}
	}
	pieces := piecesOfAll(values)
	for i, x := range pieces {
		for _, y := range pieces[:i] {
			if shares(x, y) {
				t.Fatalf("answers share memory: %v, %v", x, y)
			}
		}
	}
}

// asked is all that a shape answers.
func asked(s *shape.Shape) any {
	l := list("1 2 3 5 7 11 13 17 19 23")
	return []any{s.Standard(), s.Point(l), s.Ray(l), s.Mult(l)}
}

// R3: the problem, the shape and the outcome handed in are as they were, spare room too.
func TestNothingHandedInIsChanged(t *testing.T) {
	for k, p := range byHand() {
		same := snapshot(&p)
		if back.Solve(p); !same() {
			t.Errorf("problem %d isn't as it was behind Solve", k)
		}
		s := shape.Make(p)
		before := asked(s)
		for _, verdict := range all() {
			o := outcomeByHand(verdict)
			sameOutcome := snapshot(&o)
			if back.Of(p, s, o); !same() || !sameOutcome() || !reflect.DeepEqual(asked(s), before) {
				t.Errorf("problem %d, verdict %d: not all is as it was: the problem: %v, the outcome: %v", k, verdict, same(), sameOutcome())
			}
		}
	}
}

// R3, R4: what was handed in may be written over, and so may what came out: it is its owner's, and the next answers are the same.
func TestNothingIsKept(t *testing.T) {
	for k, first := range byHand() {
		s, want := shape.Make(first), told(back.Solve(first))
		for range 2 {
			p := byHand()[k]
			c := back.Solve(p)
			spoilt(&p)
			if got := told(c); got != want {
				t.Errorf("%s, want %s", got, want)
			}
			spoilt(&c)
		}
		for _, verdict := range append(all(), all()...) {
			p, o := byHand()[k], outcomeByHand(verdict)
			want := told(secondOf(p, s, o))
			c := back.Of(p, s, o)
			spoilt(&p)
			spoilt(&o)
			if got := told(c); got != want {
				t.Errorf("verdict %d: %s, want %s", verdict, got, want)
			}
			spoilt(&c)
		}
	}
}

// R3: what is handed in may share memory in itself: an outcome's lists may be one list, a problem's numbers one number.
func TestListsThatShareMemory(t *testing.T) {
	three := odd("3")
	l := []api.Rat{three, three, odd("-2"), three, three}
	o := api.Outcome{Value: three, Point: l, Mult: l, Ray: l[1:]}
	bound := api.Bound{Has: true, At: three}
	terms := []api.Term{{Coef: three}, {Var: 1, Coef: three}, {Coef: three}}
	p := api.Problem{
		Max:  true,
		Vars: []api.Var{{Obj: three, Lo: bound, Hi: bound}, {Obj: three, Hi: bound}},
		Rows: []api.Row{{Terms: terms[:1], Lo: bound}, {Terms: terms, Lo: bound}},
	}
	same, sameOutcome := snapshot(&p), snapshot(&o)
	if got := told(back.Solve(p)); got != "optimal 18, X 3 3, Y 0 0" {
		t.Errorf("%s", got)
	}
	for verdict, want := range []string{"0", "optimal -3, X 6 0, Y -3 -3", "infeasible, Y 3 3", "unbounded, X 6 0, Ray 3 2"} {
		other := o
		other.Verdict = verdict
		comesTo(t, p, shape.Make(p), other, want)
	}
	if !same() || !sameOutcome() {
		t.Error("not all is as it was")
	}
}

// R4: many may ask at the same time, of one problem, one shape and one outcome.
func TestAskedSideBySide(t *testing.T) {
	p := byHand()[0]
	s, o := shape.Make(p), outcomeByHand(api.Optimal)
	both := func() string { return told(back.Solve(p)) + told(back.Of(p, s, o)) }
	want, got := both(), make(chan string)
	for range 8 {
		go func() { got <- both() }()
	}
	for range 8 {
		if a := <-got; a != want {
			t.Errorf("%s, want %s", a, want)
		}
	}
}

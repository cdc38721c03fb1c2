package climb_test

import (
	"reflect"
	"testing"

	"vertex/api"
	"vertex/board"
	"vertex/climb"
)

// piece is where a list lies, spare room too.
type piece struct {
	at   uintptr
	size uintptr
}

// piecesOf finds all lists in a value, however deep, numbers' limbs among them.
func piecesOf(v reflect.Value) (l []piece) {
	switch v.Kind() {
	case reflect.Struct:
		for i := range v.NumField() {
			l = append(l, piecesOf(v.Field(i))...)
		}
	case reflect.Slice:
		if v.Cap() > 0 {
			l = append(l, piece{v.Pointer(), uintptr(v.Cap()) * v.Type().Elem().Size()})
		}
		for i := range v.Len() {
			l = append(l, piecesOf(v.Index(i))...)
		}
	}
	return l
}

// piecesOfAll finds all lists in some values. They are to be made ahead of it, all of them: what nobody holds any more may lend its place to what is made next.
func piecesOfAll(values []any) (l []piece) {
	for _, x := range values {
		l = append(l, piecesOf(reflect.ValueOf(x))...)
	}
	return l
}

// shares tells whether two lists overlap.
func shares(a, b piece) bool { return a.at < b.at+b.size && b.at < a.at+a.size }

// roomy copies a value, all its lists with spare room behind them.
func roomy(v reflect.Value) reflect.Value {
	c := reflect.New(v.Type()).Elem()
	switch v.Kind() {
	case reflect.Struct:
		for i := range v.NumField() {
			c.Field(i).Set(roomy(v.Field(i)))
		}
	case reflect.Slice:
		if v.IsNil() {
			return c
		}
		c = reflect.MakeSlice(v.Type(), v.Len(), v.Len()+3)
		for i := range v.Len() {
			c.Index(i).Set(roomy(v.Index(i)))
		}
	default:
		c.Set(v)
	}
	return c
}

func copyOf[T any](a T) T { return roomy(reflect.ValueOf(a)).Interface().(T) }

// spoil writes over all lists of a value, spare room too.
func spoil(v reflect.Value) {
	switch v.Kind() {
	case reflect.Struct:
		for i := range v.NumField() {
			spoil(v.Field(i))
		}
	case reflect.Slice:
		v = v.Slice(0, v.Cap())
		for i := range v.Len() {
			spoil(v.Index(i))
		}
	case reflect.Uint64:
		v.SetUint(0xabcdef)
	case reflect.Int:
		v.SetInt(-7)
	case reflect.Bool:
		v.SetBool(!v.Bool())
	}
}

func spoilt[T any](a *T) { spoil(reflect.ValueOf(a).Elem()) }

// room shows a value with its lists' spare room as elements.
func room(v reflect.Value) reflect.Value {
	c := reflect.New(v.Type()).Elem()
	switch v.Kind() {
	case reflect.Struct:
		for i := range v.NumField() {
			c.Field(i).Set(room(v.Field(i)))
		}
	case reflect.Slice:
		if v.Cap() == 0 {
			return c
		}
		c = reflect.MakeSlice(v.Type(), v.Cap(), v.Cap())
		for i := range v.Cap() {
			c.Index(i).Set(room(v.Slice(0, v.Cap()).Index(i)))
		}
	default:
		c.Set(v)
	}
	return c
}

// snapshot holds a value, its lists' spare room too, and tells whether it is as it was.
func snapshot[T any](a *T) (unchanged func() bool) {
	shown := func() any { return room(reflect.ValueOf(a).Elem()).Interface() }
	before := shown()
	return func() bool { return reflect.DeepEqual(shown(), before) }
}

// byHand are standards of each verdict, with room behind their lists, in no one form.
func byHand() []api.Standard {
	great := num("36893488147419103232/3")
	ordinary := api.Standard{
		A: [][]api.Rat{{odd("1"), odd("1"), odd("1"), noughts()[3]}, {odd("-1"), odd("-3"), noughts()[4], odd("-1"), odd("9")}, {odd("2"), num("2"), odd("2")}, {}, list("1 1")},
		B: []api.Rat{odd("4"), odd("-6"), num("8"), {}},
		C: []api.Rat{odd("-3"), great, num("-1/7"), {}},
		K: odd("-1/2"),
	}
	nowhere := copyOf(ordinary)
	nowhere.B[2] = odd("9")
	endless := copyOf(ordinary)
	endless.C = append(endless.C, num("-1"))
	endless.A[1] = endless.A[1][:4]
	driven := api.Standard{A: [][]api.Rat{{odd("-1"), great}, {noughts()[1], odd("-1")}}, B: noughts()[:2], C: list("1 2 -3")}
	return copyOf([]api.Standard{ordinary, nowhere, endless, driven})
}

// ready lays a standard out, and brings columns in so that Up goes on from there.
func ready(t *testing.T) (*board.Board, api.Standard) {
	t.Helper()
	s := byHand()[0]
	b := board.New(s)
	must(t, b.Pivot(0, 2))
	must(t, b.Pivot(1, 3))
	must(t, b.Drop(2))
	must(t, b.Drop(3))
	b.Cost(list("1 2 3 4 5 6 7 8"))
	return b, s
}

// The standards of these tests have each of the verdicts, and pivots in each part of the way.
func TestByHand(t *testing.T) {
	count := map[string]int{}
	for _, s := range byHand() {
		o := climb.Run(s)
		proven(t, s, o)
		kinds(count, o)
	}
	b, s := ready(t)
	kinds(count, climb.Up(b, s))
	enough(t, 1, count, "optimal", "infeasible", "unbounded", "in phase 1", "in driving out", "in phase 2", "dropped")
}

// R3: answers share no memory with one another, of the same call and of another one, nor with what was handed in; no two lists of one answer do.
func TestAnswersShareNothing(t *testing.T) {
	var values []any
	add := func(x any) { values = append(values, x) }
	for _, s := range byHand() {
		add(s)
		add(climb.Run(s))
		add(climb.Run(s))
	}
	b, s := ready(t)
	add(s)
	add(climb.Up(b, s))
	add(climb.Up(b, s))
	pieces := piecesOfAll(values)
	for i, x := range pieces {
		for _, y := range pieces[:i] {
			if shares(x, y) {
				t.Fatalf("answers share memory: %v, %v", x, y)
			}
		}
	}
}

// R3: what is handed in stays as it was, spare room too.
func TestNothingHandedInIsChanged(t *testing.T) {
	for k, s := range byHand() {
		unchanged := snapshot(&s)
		climb.Run(s)
		if !unchanged() {
			t.Errorf("standard %d isn't as it was", k)
		}
	}
	b, s := ready(t)
	unchanged, before := snapshot(&s), shown(b)
	climb.Up(b, s)
	if !unchanged() || shown(b) != before {
		t.Errorf("the standard is as it was: %v; the board is\n%s, was\n%s", unchanged(), shown(b), before)
	}
}

// R3, R4: what came out may be written over, and so may a standard that was handed in: the next answers are the same.
func TestNothingIsKept(t *testing.T) {
	for k := range byHand() {
		want := told(secondRun(byHand()[k]))
		for range 2 {
			s := byHand()[k]
			o := climb.Run(s)
			spoilt(&s)
			if got := told(o); got != want {
				t.Errorf("%s, want\n%s", got, want)
			}
			spoilt(&o)
		}
	}
	b, s := ready(t)
	before, want := shown(b), told(climb.Up(b, s))
	for range 2 {
		s := copyOf(s)
		o := climb.Up(b, s)
		spoilt(&s)
		if told(o) != want || shown(b) != before {
			t.Errorf("%s, want\n%s, of\n%s", told(o), want, shown(b))
		}
		spoilt(&o)
	}
}

// R3: a standard's lists and numbers may be parts of one another.
func TestListsThatShareMemory(t *testing.T) {
	three := odd("3")
	l := []api.Rat{three, three, num("1"), three}
	s := api.Standard{A: [][]api.Rat{l, l[1:], l[:1], l}, B: l, C: l[:3], K: three}
	unchanged := snapshot(&s)
	if got, want := told(climb.Run(s)), told(secondRun(copyOf(s))); got != want {
		t.Errorf("%s, want\n%s", got, want)
	}
	if !unchanged() {
		t.Error("the standard isn't as it was")
	}
}

// R4: many may ask at the same time, of one standard and of one board.
func TestAskedSideBySide(t *testing.T) {
	b, s := ready(t)
	both := func() string { return told(climb.Run(s)) + told(climb.Up(b, s)) }
	want, got := both(), make(chan string)
	for range 8 {
		go func() { got <- both() }()
	}
	for range 8 {
		if a := <-got; a != want {
			t.Errorf("%s, want\n%s", a, want)
		}
	}
}

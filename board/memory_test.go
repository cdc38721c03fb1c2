package board_test

import (
	"reflect"
	"testing"

	"vertex/api"
	"vertex/board"
)

// piece is where a list lies, spare room too.
type piece struct {
	at   uintptr
	size uintptr
}

// piecesOf finds all lists in a value, however deep, numbers' limbs among them.
func piecesOf(v reflect.Value) (l []piece) {
	switch v.Kind() {
	case reflect.Struct:
		for i := range v.NumField() {
			l = append(l, piecesOf(v.Field(i))...)
		}
	case reflect.Slice:
		if v.Cap() > 0 {
			l = append(l, piece{v.Pointer(), uintptr(v.Cap()) * v.Type().Elem().Size()})
		}
		for i := range v.Len() {
			l = append(l, piecesOf(v.Index(i))...)
		}
	}
	return l
}

// piecesOfAll finds all lists in some values. They are to be made ahead of it, all of them: what nobody holds any more may lend its place to what is made next.
func piecesOfAll(values []any) (l []piece) {
	for _, x := range values {
		l = append(l, piecesOf(reflect.ValueOf(x))...)
	}
	return l
}

// shares tells whether two lists overlap.
func shares(a, b piece) bool { return a.at < b.at+b.size && b.at < a.at+a.size }

// roomy copies a value, all its lists with spare room behind them.
func roomy(v reflect.Value) reflect.Value {
	c := reflect.New(v.Type()).Elem()
	switch v.Kind() {
	case reflect.Struct:
		for i := range v.NumField() {
			c.Field(i).Set(roomy(v.Field(i)))
		}
	case reflect.Slice:
		if v.IsNil() {
			return c
		}
		c = reflect.MakeSlice(v.Type(), v.Len(), v.Len()+3)
		for i := range v.Len() {
			c.Index(i).Set(roomy(v.Index(i)))
		}
	default:
		c.Set(v)
	}
	return c
}

func copyOf[T any](a T) T { return roomy(reflect.ValueOf(a)).Interface().(T) }

// spoil writes over all lists of a value, spare room too.
func spoil(v reflect.Value) {
	switch v.Kind() {
	case reflect.Struct:
		for i := range v.NumField() {
			spoil(v.Field(i))
		}
	case reflect.Slice:
		v = v.Slice(0, v.Cap())
		for i := range v.Len() {
			spoil(v.Index(i))
		}
	case reflect.Uint64:
		v.SetUint(0xabcdef)
	case reflect.Int:
		v.SetInt(-7)
	case reflect.Bool:
		v.SetBool(!v.Bool())
	}
}

func spoilt[T any](a *T) { spoil(reflect.ValueOf(a).Elem()) }

// room shows a value with its lists' spare room as elements.
func room(v reflect.Value) reflect.Value {
	c := reflect.New(v.Type()).Elem()
	switch v.Kind() {
	case reflect.Struct:
		for i := range v.NumField() {
			c.Field(i).Set(room(v.Field(i)))
		}
	case reflect.Slice:
		if v.Cap() == 0 {
			return c
		}
		c = reflect.MakeSlice(v.Type(), v.Cap(), v.Cap())
		for i := range v.Cap() {
			c.Index(i).Set(room(v.Slice(0, v.Cap()).Index(i)))
		}
	default:
		c.Set(v)
	}
	return c
}

// snapshot holds a value, its lists' spare room too, and tells whether it is as it was.
func snapshot[T any](a *T) (unchanged func() bool) {
	shown := func() any { return room(reflect.ValueOf(a).Elem()).Interface() }
	before := shown()
	return func() bool { return reflect.DeepEqual(shown(), before) }
}

// byHand is a standard of rows of all kinds, with room behind its lists, in no one form, and costs for it.
func byHand() (api.Standard, []api.Rat) {
	s := api.Standard{
		A: [][]api.Rat{{odd("2"), odd("-1/2"), num("18446744073709551616")}, {odd("-1"), odd("3")}, append(noughts(), odd("4")), {odd("1"), num("1"), odd("5"), odd("7")}},
		B: []api.Rat{num("3"), odd("-5/3"), {}, odd("0"), num("18446744073709551617")},
		C: []api.Rat{odd("1"), num("2"), {}},
		K: odd("7"),
	}
	return copyOf(s), copyOf(append(list("18446744073709551616 -2/3"), odd("5"), odd("-1/2"), num("3"), api.Rat{}, odd("4"), num("1"), odd("9")))
}

// answers are all the lists that a board gives out.
type answers struct {
	Numbers, Reduced []api.Rat
	Basis            []int
}

// ask asks for everything, places that aren't there among it.
func ask(b *board.Board) (a answers) {
	for i := -1; i <= b.Rows(); i++ {
		a.Numbers = append(a.Numbers, b.Right(i), b.Mult(i))
		for j := -1; j <= b.Cols(); j++ {
			a.Numbers = append(a.Numbers, b.At(i, j))
		}
	}
	for j := -1; j <= b.Cols(); j++ {
		a.Reduced = append(a.Reduced, b.Reduced(j))
	}
	a.Reduced, a.Basis = append(a.Reduced, b.Worth()), b.Basis()
	return a
}

// changes are pivots that can be done to the board of byHand, one behind the other; then a row goes.
func changes(t *testing.T, b tableau) {
	t.Helper()
	for _, at := range [][2]int{{0, 0}, {1, 1}, {3, 2}, {1, 3}} {
		must(t, b.Pivot(at[0], at[1]))
	}
	must(t, b.Drop(4))
}

// R3: answers share no memory with one another, those of the same call and of another one of the same board or its clone, nor with what was handed in.
func TestAnswersShareNothing(t *testing.T) {
	s, costs := byHand()
	b := board.New(s)
	b.Cost(costs)
	clone := b.Clone()
	values := []any{s, costs, ask(b), ask(clone)}
	changes(t, b)
	pieces := piecesOfAll(append(values, ask(b), ask(b), ask(clone), ask(b.Clone())))
	for i, x := range pieces {
		for _, y := range pieces[:i] {
			if shares(x, y) {
				t.Fatalf("answers share memory: %v, %v", x, y)
			}
		}
	}
}

// R3: what is handed in stays as it was, spare room too.
func TestNothingHandedInIsChanged(t *testing.T) {
	s, costs := byHand()
	sameS, sameCosts := snapshot(&s), snapshot(&costs)
	b := board.New(s)
	b.Cost(costs)
	ask(b)
	changes(t, b)
	b.Cost(costs)
	ask(b)
	if !sameS() || !sameCosts() {
		t.Errorf("the standard is as it was: %v; the costs: %v", sameS(), sameCosts())
	}
}

// R3, R4: a standard is not looked at again behind New, nor costs behind Cost; what came out may be written over, and the next answers are the same.
func TestNothingIsKept(t *testing.T) {
	s, costs := byHand()
	want := plainOf(s)
	b := board.New(s)
	spoilt(&s)
	b.Cost(costs)
	want.Cost(costs)
	spoilt(&costs)
	for range 2 {
		a := ask(b)
		spoilt(&a)
		same(t, b, want)
	}
	clone, other := b.Clone(), want.another()
	changes(t, b)
	changes(t, want)
	for range 2 {
		a, c := ask(b), ask(clone)
		spoilt(&a)
		spoilt(&c)
		same(t, b, want)
		same(t, clone, other)
	}
}

// R3: a standard's lists and numbers may be parts of one another, and costs may be lists of the standard.
func TestListsThatShareMemory(t *testing.T) {
	three := odd("-3")
	l := []api.Rat{three, three, num("1"), three}
	s := api.Standard{A: [][]api.Rat{l, l[1:], l[:1], l}, B: l, C: l[:3], K: three}
	unchanged := snapshot(&s)
	b, want := board.New(s), plainOf(s)
	b.Cost(s.B)
	want.Cost(s.B)
	same(t, b, want)
	must(t, b.Pivot(0, 0))
	must(t, want.Pivot(0, 0))
	same(t, b, want)
	rowIs(t, b, 1, "0 -4 4 -1 1 0 0 = 0")
	if !unchanged() {
		t.Error("the standard isn't as it was")
	}
}

// R4: asking changes nothing, so many may ask one board at the same time.
func TestAskedSideBySide(t *testing.T) {
	s, costs := byHand()
	b := board.New(s)
	b.Cost(costs)
	changes(t, b)
	want, got := shown(b), make(chan string)
	for range 8 {
		go func() { got <- shown(b) }()
	}
	for range 8 {
		if a := <-got; a != want {
			t.Errorf("%s\nwant\n%s", a, want)
		}
	}
}

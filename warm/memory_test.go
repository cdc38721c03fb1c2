package warm_test

import (
	"reflect"
	"slices"
	"testing"

	"vertex/api"
	"vertex/climb"
	"vertex/warm"
)

// piece is where a list lies, spare room too.
type piece struct {
	at   uintptr
	size uintptr
}

// piecesOf finds all lists in a value, however deep, numbers' limbs among them.
func piecesOf(v reflect.Value) (l []piece) {
	switch v.Kind() {
	case reflect.Struct:
		for i := range v.NumField() {
			l = append(l, piecesOf(v.Field(i))...)
		}
	case reflect.Slice:
		if v.Cap() > 0 {
			l = append(l, piece{v.Pointer(), uintptr(v.Cap()) * v.Type().Elem().Size()})
		}
		for i := range v.Len() {
			l = append(l, piecesOf(v.Index(i))...)
		}
	}
	return l
}

// piecesOfAll finds all lists in some values. They are to be made ahead of it, all of them: what nobody holds any more may lend its place to what is made next.
func piecesOfAll(values []any) (l []piece) {
	for _, x := range values {
		l = append(l, piecesOf(reflect.ValueOf(x))...)
	}
	return l
}

// shares tells whether two lists overlap.
func shares(a, b piece) bool { return a.at < b.at+b.size && b.at < a.at+a.size }

// roomy copies a value, all its lists with spare room behind them.
func roomy(v reflect.Value) reflect.Value {
	c := reflect.New(v.Type()).Elem()
	switch v.Kind() {
	case reflect.Struct:
		for i := range v.NumField() {
			c.Field(i).Set(roomy(v.Field(i)))
		}
	case reflect.Slice:
		if v.IsNil() {
			return c
		}
		c = reflect.MakeSlice(v.Type(), v.Len(), v.Len()+3)
		for i := range v.Len() {
			c.Index(i).Set(roomy(v.Index(i)))
		}
	default:
		c.Set(v)
	}
	return c
}

func copyOf[T any](a T) T { return roomy(reflect.ValueOf(a)).Interface().(T) }

// spoil writes over all lists of a value, spare room too.
func spoil(v reflect.Value) {
	switch v.Kind() {
	case reflect.Struct:
		for i := range v.NumField() {
			spoil(v.Field(i))
		}
	case reflect.Slice:
		v = v.Slice(0, v.Cap())
		for i := range v.Len() {
			spoil(v.Index(i))
		}
	case reflect.Uint64:
		v.SetUint(0xabcdef)
	case reflect.Int:
		v.SetInt(-7)
	case reflect.Bool:
		v.SetBool(!v.Bool())
	}
}

func spoilt[T any](a *T) { spoil(reflect.ValueOf(a).Elem()) }

// room shows a value with its lists' spare room as elements.
func room(v reflect.Value) reflect.Value {
	c := reflect.New(v.Type()).Elem()
	switch v.Kind() {
	case reflect.Struct:
		for i := range v.NumField() {
			c.Field(i).Set(room(v.Field(i)))
		}
	case reflect.Slice:
		if v.Cap() == 0 {
			return c
		}
		c = reflect.MakeSlice(v.Type(), v.Cap(), v.Cap())
		for i := range v.Cap() {
			c.Index(i).Set(room(v.Slice(0, v.Cap()).Index(i)))
		}
	default:
		c.Set(v)
	}
	return c
}

// snapshot holds a value, its lists' spare room too, and tells whether it is as it was.
func snapshot[T any](a *T) (unchanged func() bool) {
	shown := func() any { return room(reflect.ValueOf(a).Elem()).Interface() }
	before := shown()
	return func() bool { return reflect.DeepEqual(shown(), before) }
}

// start is a standard, and where to begin.
type start struct {
	S    api.Standard
	List []int
}

// byHand are standards and lists of each case and each verdict, with room behind their lists, in no one form.
func byHand() []start {
	great := num("36893488147419103232/3")
	ordinary := api.Standard{
		A: [][]api.Rat{{odd("1"), odd("1"), odd("1"), noughts()[3]}, {odd("-1"), odd("-3"), noughts()[4], odd("-1"), odd("9")}, {odd("2"), num("2"), odd("2")}, {}, list("1 1")},
		B: []api.Rat{odd("4"), odd("-6"), num("8"), {}},
		C: []api.Rat{odd("-3"), great, num("-1/7"), {}},
		K: odd("-1/2"),
	}
	nowhere := copyOf(ordinary)
	nowhere.B[2] = odd("9")
	endless := copyOf(ordinary)
	endless.C = append(endless.C, num("-1"))
	endless.A[1] = endless.A[1][:4]
	dear := copyOf(ordinary)
	dear.C = []api.Rat{odd("-3"), odd("-5"), {}, noughts()[2]}
	dear.B[1] = odd("-15")
	empty := copyOf(dear)
	empty.C = []api.Rat{odd("3"), great, num("1/7"), {}}
	empty.B[0], empty.B[2] = odd("-4"), odd("-8")
	return copyOf([]start{
		{ordinary, []int{0, 1, 9, 0}}, {ordinary, []int{-1, 2, 3}}, {ordinary, []int{2, 0}}, {nowhere, []int{1}}, {endless, []int{0, 3}},
		{dear, []int{0, 1}}, {dear, []int{2, 1}}, {empty, []int{2, 3}},
	})
}

// The standards of these tests are of each case and of each verdict.
func TestByHand(t *testing.T) {
	count := map[string]int{}
	for _, x := range byHand() {
		o := warm.Run(x.S, x.List)
		asGood(t, x.S, o)
		_, which := secondRun(x.S, x.List)
		count[which]++
		count[verdictOf(o)]++
	}
	enough(t, 1, count, "a row that nothing meets", "up", "from the beginning", "dual, optimal", "dual, infeasible", "optimal", "infeasible", "unbounded")
}

// R3: answers share no memory with one another, of the same call and of another one, nor with what was handed in; no two lists of one answer do.
func TestAnswersShareNothing(t *testing.T) {
	var values []any
	for _, x := range byHand() {
		values = append(values, x)
		for range 2 {
			values = append(values, warm.Run(x.S, x.List), warm.Guess(x.S), warm.Guided(x.S))
		}
	}
	pieces := piecesOfAll(values)
	for i, x := range pieces {
		for _, y := range pieces[:i] {
			if shares(x, y) {
				t.Fatalf("answers share memory: %v, %v", x, y)
			}
		}
	}
}

// R3: a board has no memory of what was handed in, nor of another board.
func TestBoardsShareNothing(t *testing.T) {
	for _, x := range byHand() {
		one, _ := warm.Place(x.S, x.List)
		two, _ := warm.Place(x.S, x.List)
		lists := [][]piece{piecesOf(reflect.ValueOf(x)), piecesOf(reflect.ValueOf(one).Elem()), piecesOf(reflect.ValueOf(two).Elem())}
		for i, pieces := range lists {
			for _, a := range pieces {
				if slices.ContainsFunc(slices.Concat(lists[:i]...), func(b piece) bool { return shares(a, b) }) {
					t.Fatalf("what was handed in and two boards share memory: %v", a)
				}
			}
		}
	}
}

// R3: what is handed in stays as it was, spare room too.
func TestNothingHandedInIsChanged(t *testing.T) {
	for k, x := range byHand() {
		unchanged := snapshot(&x)
		warm.Place(x.S, x.List)
		warm.Run(x.S, x.List)
		warm.Guess(x.S)
		warm.Guided(x.S)
		if !unchanged() {
			t.Errorf("standard %d or its list isn't as it was", k)
		}
	}
}

// R3, R4: what came out may be written over, and so may what was handed in: the next answers are the same.
func TestNothingIsKept(t *testing.T) {
	for k, fresh := range byHand() {
		board, _ := warm.Place(fresh.S, fresh.List)
		want, wantBoard, wantGuess := told(warm.Run(fresh.S, fresh.List)), shown(board), warm.Guess(fresh.S)
		for range 2 {
			x := byHand()[k]
			b, _ := warm.Place(x.S, x.List)
			o, guess, guided := warm.Run(x.S, x.List), warm.Guess(x.S), warm.Guided(x.S)
			spoilt(&x)
			if told(o) != want || shown(b) != wantBoard || !slices.Equal(guess, wantGuess) {
				t.Errorf("%s, %v,\n%s\nwant\n%s, %v,\n%s", told(o), guess, shown(b), want, wantGuess, wantBoard)
			}
			asGood(t, fresh.S, guided)
			spoilt(&o)
			spoilt(&guess)
			spoilt(&guided)
			// What is done to one board isn't done to the next.
			b.Cost(list("1 2 3 4 5 6 7 8"))
			for i := range b.Rows() {
				b.Pivot(i, b.Cols()-1)
				b.Drop(i)
			}
		}
	}
}

// R3: a standard's lists and numbers may be parts of one another.
func TestListsThatShareMemory(t *testing.T) {
	three := odd("3")
	l := []api.Rat{three, three, num("1"), three}
	x := start{api.Standard{A: [][]api.Rat{l, l[1:], l[:1], l}, B: l, C: l[:3], K: three}, []int{2, 1}}
	unchanged := snapshot(&x)
	want, _ := secondRun(copyOf(x.S), x.List)
	if got := told(warm.Run(x.S, x.List)); got != told(want) {
		t.Errorf("%s, want\n%s", got, told(want))
	}
	if asGood(t, x.S, warm.Guided(x.S)); !unchanged() {
		t.Error("the standard or the list isn't as it was")
	}
}

// The list may be the basis of an outcome, which stays as it was.
func TestBasisOfAnOutcome(t *testing.T) {
	o := climb.Run(standard(made))
	unchanged := snapshot(&o)
	runs(t, made, o.Basis, "optimal -14, point 3 1 0 0, mult -2 -1, basis 0 1, pivots 2 0 0")
	if !unchanged() {
		t.Error("the outcome isn't as it was")
	}
}

// R4: many may ask at the same time, of one standard.
func TestAskedSideBySide(t *testing.T) {
	for _, x := range byHand() {
		all := func() string {
			b, _ := warm.Place(x.S, x.List)
			return told(warm.Run(x.S, x.List)) + told(warm.Guided(x.S)) + shown(b)
		}
		want, got := all(), make(chan string)
		for range 8 {
			go func() { got <- all() }()
		}
		for range 8 {
			if a := <-got; a != want {
				t.Errorf("%s, want\n%s", a, want)
			}
		}
	}
}

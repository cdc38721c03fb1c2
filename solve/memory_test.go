package solve_test

import (
	"bytes"
	"cmp"
	"reflect"
	"runtime"
	"slices"
	"strings"
	"testing"
	"unsafe"

	"vertex/api"
	"vertex/solve"
)

// piece is where a list lies, spare room too.
type piece struct {
	at   uintptr
	size uintptr
}

// piecesOf finds all lists and texts in a value, however deep, numbers' limbs among them.
func piecesOf(v reflect.Value) (l []piece) {
	switch v.Kind() {
	case reflect.Struct:
		for i := range v.NumField() {
			l = append(l, piecesOf(v.Field(i))...)
		}
	case reflect.Slice:
		if v.Cap() > 0 {
			l = append(l, piece{v.Pointer(), uintptr(v.Cap()) * v.Type().Elem().Size()})
		}
		for i := range v.Len() {
			l = append(l, piecesOf(v.Index(i))...)
		}
	case reflect.String:
		if v.Len() > 0 {
			l = append(l, piece{uintptr(unsafe.Pointer(unsafe.StringData(v.String()))), uintptr(v.Len())})
		}
	}
	return l
}

// piecesOfAll finds all lists in some values. They are to be made ahead of it, all of them: what nobody holds any more may lend its place to what is made next.
func piecesOfAll(values []any) (l []piece) {
	for _, x := range values {
		l = append(l, piecesOf(reflect.ValueOf(x))...)
	}
	return l
}

// shares tells whether two lists overlap.
func shares(a, b piece) bool { return a.at < b.at+b.size && b.at < a.at+a.size }

// roomy copies a value, all its lists with spare room behind them, and its texts too.
func roomy(v reflect.Value) reflect.Value {
	c := reflect.New(v.Type()).Elem()
	switch v.Kind() {
	case reflect.Struct:
		for i := range v.NumField() {
			c.Field(i).Set(roomy(v.Field(i)))
		}
	case reflect.Slice:
		if v.IsNil() {
			return c
		}
		c = reflect.MakeSlice(v.Type(), v.Len(), v.Len()+3)
		for i := range v.Len() {
			c.Index(i).Set(roomy(v.Index(i)))
		}
	case reflect.String:
		c.SetString(strings.Clone(v.String()))
	default:
		c.Set(v)
	}
	return c
}

func copyOf[T any](a T) T { return roomy(reflect.ValueOf(a)).Interface().(T) }

// spoil writes over all lists of a value, spare room too.
func spoil(v reflect.Value) {
	switch v.Kind() {
	case reflect.Struct:
		for i := range v.NumField() {
			spoil(v.Field(i))
		}
	case reflect.Slice:
		v = v.Slice(0, v.Cap())
		for i := range v.Len() {
			spoil(v.Index(i))
		}
	case reflect.Uint64, reflect.Uint8:
		v.SetUint(0x6f)
	case reflect.Int:
		v.SetInt(-7)
	case reflect.String:
		v.SetString("spoilt")
	case reflect.Bool:
		v.SetBool(!v.Bool())
	}
}

func spoilt[T any](a *T) { spoil(reflect.ValueOf(a).Elem()) }

// room shows a value with its lists' spare room as elements.
func room(v reflect.Value) reflect.Value {
	c := reflect.New(v.Type()).Elem()
	switch v.Kind() {
	case reflect.Struct:
		for i := range v.NumField() {
			c.Field(i).Set(room(v.Field(i)))
		}
	case reflect.Slice:
		if v.Cap() == 0 {
			return c
		}
		c = reflect.MakeSlice(v.Type(), v.Cap(), v.Cap())
		for i := range v.Cap() {
			c.Index(i).Set(room(v.Slice(0, v.Cap()).Index(i)))
		}
	default:
		c.Set(v)
	}
	return c
}

// snapshot holds a value, its lists' spare room too, and tells whether it is as it was.
func snapshot[T any](a *T) (unchanged func() bool) {
	shown := func() any { return room(reflect.ValueOf(a).Elem()).Interface() }
	before := shown()
	return func() bool { return reflect.DeepEqual(shown(), before) }
}

// call is one of the two that solve texts, with what it is to answer of one.
type call struct {
	name  string
	solve func([]byte) ([]byte, int)
	text  string
	want  outcome
}

// calls are of each kind of answers, in both formats.
func calls() (l []call) {
	for _, text := range []string{
		example, "min x st x >= 1 -x >= 0 end", "max x + y st x - y = 0 end", "min st end",
		"max 5x + 4y st r: 6x + 4y <= 24 s: x + 2y <= 6 bounds x <= 5 y <= 5 int x y end", "min x st bounds 1/3 <= x <= 2/3 int x end", "max x + y st bounds x <= 3/2 int x end",
		"min x st 2 x - 2 y = 1 bounds x <= 250 y <= 250 int x y end", "min x st int x end", "", "max x st x <= y end", "max a: x st a: x <= 1 end",
		// Numbers of two limbs.
		"max x + y st c: 36893488147419103232 x <= 1 d: y <= 36893488147419103233/2 end",
	} {
		l = append(l, call{"Solve", solve.Solve, text, secondly(text)})
	}
	for _, text := range []string{"ROWS| N c| G r|COLUMNS| x c 1 r 2|RHS| b r 4|ENDATA", "ROWS| N c|COLUMNS| x c -1|ENDATA", "ROWS| N c|COLUMNS| x c 1|BOUNDS| BV x|ENDATA", "ROWS| Q c|ENDATA", ""} {
		text = barred(text)
		l = append(l, call{"SolveMps", solve.SolveMps, text, secondlyMps(text)})
	}
	return l
}

// with gives a text's bytes, with spare room behind them.
func with(text string) []byte { return append(make([]byte, 0, len(text)+9), text...) }

// R3, P19.5: the bytes handed in are as they were, spare room too, and may be written over behind the call, as may be what came out: it is its owner's, and the next answer is the same.
func TestBytesAreNeitherChangedNorKept(t *testing.T) {
	for _, c := range calls() {
		for range 2 {
			b := with(c.text)
			same := snapshot(&b)
			out, code := c.solve(b)
			if !same() {
				t.Errorf("%s(%q): the bytes aren't as they were", c.name, c.text)
			}
			spoilt(&b)
			if got := outcomeOf(out, code); got != c.want {
				t.Errorf("%s(%q) = %q, %d, want %q, %d", c.name, c.text, got.text, got.code, c.want.text, c.want.code)
			}
			spoilt(&out)
		}
	}
}

// R3: a nil text and an empty one are the same.
func TestNoBytes(t *testing.T) {
	for _, b := range [][]byte{nil, {}, make([]byte, 0, 9)} {
		if got := outcomeOf(solve.Solve(b)); got != secondly("") {
			t.Errorf("Solve(%#v) = %q, %d", b, got.text, got.code)
		}
		if got := outcomeOf(solve.SolveMps(b)); got != secondlyMps("") {
			t.Errorf("SolveMps(%#v) = %q, %d", b, got.text, got.code)
		}
		if c, err := solve.Read(api.Problem{Vars: []api.Var{}, Rows: []api.Row{}}, b); err != api.ErrField || !isZero(c) {
			t.Errorf("Read(%#v) = %s, %v", b, told(c), err)
		}
	}
}

// answer is one of a problem by hand.
type answer struct {
	p   api.Problem
	out []byte
}

// answersByHand are problems in no one form, with answers of each verdict, true or not, right ones and such as are none.
func answersByHand() (l []answer) {
	r := chances(193)
	add := func(p api.Problem, out string) { l = append(l, answer{copyOf(p), with(out)}) }
	for range 40 {
		p := r.problem(r.anyName, r.Intn(4), r.Intn(4))
		out := certText(p, r.cert(p))
		add(p, out)
		add(p, r.retouched(out))
	}
	p := problem(example)
	for _, l := range right() {
		add(p, lines(l...))
		add(p, strings.ReplaceAll(lines(l...), " 1", " 36893488147419103233"))
	}
	p.Vars[0].Whole = true
	add(p, lines(right()[0]...))
	return l
}

// The answers of these tests are of each verdict, and of none.
func TestAnswersOfTheMemoryTests(t *testing.T) {
	count := map[string]int{}
	for _, a := range answersByHand() {
		c, err := solve.Read(a.p, a.out)
		count[verdictOf(c.Verdict)]++
		if err == nil && bytes.Contains(a.out, []byte("36893488147419103233")) {
			count["long"]++
		}
	}
	enough(t, 3, count, "optimal", "infeasible", "unbounded", "0", "long")
}

// R3: what is answered shares no memory with what was handed in, nor with another answer; no two lists of one do.
func TestAnswersShareNothing(t *testing.T) {
	var values []any
	for _, a := range answersByHand() {
		values = append(values, a.p, a.out)
		for range 2 {
			if c, err := solve.Read(a.p, a.out); err == nil {
				values = append(values, c)
			}
		}
	}
	for _, c := range calls() {
		b := with(c.text)
		one, _ := c.solve(b)
		two, _ := c.solve(b)
		values = append(values, b, one, two)
	}
	pieces := piecesOfAll(values)
	slices.SortFunc(pieces, func(a, b piece) int { return cmp.Compare(a.at, b.at) })
	for i := 1; i < len(pieces); i++ {
		if shares(pieces[i-1], pieces[i]) {
			t.Fatalf("an answer shares memory: %v, %v", pieces[i-1], pieces[i])
		}
	}
	if len(pieces) < 1000 {
		t.Errorf("only %d pieces", len(pieces))
	}
	// What is told by values alone must be held till it is compared.
	runtime.KeepAlive(values)
}

// R3: the problem and the answer handed in are as they were, spare room too, and may be written over, and so may the certificate: the next one is the same.
func TestNothingIsChangedOrKept(t *testing.T) {
	for k, a := range answersByHand() {
		want, isAnswer := secondReader(a.p)(string(a.out))
		for range 2 {
			p, out := copyOf(a.p), copyOf(a.out)
			sameProblem, sameOut := snapshot(&p), snapshot(&out)
			c, err := solve.Read(p, out)
			if !sameProblem() || !sameOut() {
				t.Errorf("answer %d: the problem is as it was: %v, the bytes: %v", k, sameProblem(), sameOut())
			}
			spoilt(&p)
			spoilt(&out)
			if isAnswer && (err != nil || told(c) != told(want)) || !isAnswer && (err != api.ErrField || !isZero(c)) {
				t.Errorf("answer %d: %s, %v, want %s", k, told(c), err, told(want))
			}
			spoilt(&c)
		}
	}
}

// R4: many may ask at the same time.
func TestAskedSideBySide(t *testing.T) {
	texts, answers := calls(), answersByHand()
	all := func() string {
		var s strings.Builder
		for _, c := range texts {
			if c.want.code != 1 {
				out, code := c.solve([]byte(c.text))
				s.WriteString(string(out) + string(rune('0'+code)))
			}
		}
		for _, a := range answers {
			c, err := solve.Read(a.p, a.out)
			s.WriteString(told(c))
			if err != nil {
				s.WriteString(err.Error())
			}
		}
		return s.String()
	}
	want, got := all(), make(chan string)
	for range 8 {
		go func() { got <- all() }()
	}
	for range 8 {
		if a := <-got; a != want {
			t.Errorf("%s, want %s", a, want)
		}
	}
}

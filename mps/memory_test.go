package mps_test

import (
	"reflect"
	"strings"
	"testing"
	"unsafe"

	"vertex/api"
	"vertex/mps"
)

// piece is where a list lies, spare room too.
type piece struct {
	at   uintptr
	size uintptr
}

// piecesOf finds all lists and texts in a value, however deep, numbers' limbs among them.
func piecesOf(v reflect.Value) (l []piece) {
	switch v.Kind() {
	case reflect.Struct:
		for i := range v.NumField() {
			l = append(l, piecesOf(v.Field(i))...)
		}
	case reflect.Array:
		for i := range v.Len() {
			l = append(l, piecesOf(v.Index(i))...)
		}
	case reflect.Slice:
		if v.Cap() > 0 {
			l = append(l, piece{v.Pointer(), uintptr(v.Cap()) * v.Type().Elem().Size()})
		}
		for i := range v.Len() {
			l = append(l, piecesOf(v.Index(i))...)
		}
	case reflect.String:
		if v.Len() > 0 {
			l = append(l, piece{uintptr(unsafe.Pointer(unsafe.StringData(v.String()))), uintptr(v.Len())})
		}
	}
	return l
}

// shares tells whether two lists overlap.
func shares(a, b piece) bool { return a.at < b.at+b.size && b.at < a.at+a.size }

// roomy copies a value, all its lists with spare room behind them, and its texts too.
func roomy(v reflect.Value) reflect.Value {
	c := reflect.New(v.Type()).Elem()
	switch v.Kind() {
	case reflect.Struct:
		for i := range v.NumField() {
			c.Field(i).Set(roomy(v.Field(i)))
		}
	case reflect.Slice:
		if v.IsNil() {
			return c
		}
		c = reflect.MakeSlice(v.Type(), v.Len(), v.Len()+3)
		for i := range v.Len() {
			c.Index(i).Set(roomy(v.Index(i)))
		}
	case reflect.String:
		c.SetString(strings.Clone(v.String()))
	default:
		c.Set(v)
	}
	return c
}

func copyOf[T any](a T) T { return roomy(reflect.ValueOf(a)).Interface().(T) }

// spoil writes over all lists of a value, spare room too.
func spoil(v reflect.Value) {
	switch v.Kind() {
	case reflect.Struct:
		for i := range v.NumField() {
			spoil(v.Field(i))
		}
	case reflect.Slice:
		v = v.Slice(0, v.Cap())
		for i := range v.Len() {
			spoil(v.Index(i))
		}
	case reflect.Uint64:
		v.SetUint(0xabcdef)
	case reflect.Int:
		v.SetInt(-7)
	case reflect.String:
		v.SetString("spoilt")
	case reflect.Bool:
		v.SetBool(!v.Bool())
	}
}

// room shows a value with its lists' spare room as elements.
func room(v reflect.Value) reflect.Value {
	c := reflect.New(v.Type()).Elem()
	switch v.Kind() {
	case reflect.Struct:
		for i := range v.NumField() {
			c.Field(i).Set(room(v.Field(i)))
		}
	case reflect.Slice:
		if v.Cap() == 0 {
			return c
		}
		c = reflect.MakeSlice(v.Type(), v.Cap(), v.Cap())
		for i := range v.Cap() {
			c.Index(i).Set(room(v.Slice(0, v.Cap()).Index(i)))
		}
	default:
		c.Set(v)
	}
	return c
}

// snapshot holds a value, its lists' spare room too, and tells whether it is as it was.
func snapshot[T any](a *T) (unchanged func() bool) {
	shown := func() any { return room(reflect.ValueOf(a).Elem()).Interface() }
	before := shown()
	return func() bool { return reflect.DeepEqual(shown(), before) }
}

// byHand is a problem of all kinds of parts, with room behind its lists, in no one form.
func byHand() api.Problem {
	p := chapters()
	p.Name = "c"
	p.Vars = append(p.Vars, api.Var{Name: "w", Obj: odd("3"), Lo: hasNot("7"), Hi: api.Bound{Has: true, At: odd("18446744073709551616")}}, api.Var{Name: "v", Lo: has("-1"), Hi: has("2")}, api.Var{Name: "u", Lo: has("2"), Hi: api.Bound{Has: true, At: odd("2")}, Whole: true})
	p.Rows = append(p.Rows, api.Row{Name: "e", Terms: []api.Term{{Var: 9, Coef: odd("2")}, {Var: 3, Coef: odd("-2/3")}, {Var: -1}, {Var: 0}, {Var: 0, Coef: odd("5")}}, Lo: has("2"), Hi: has("8")}, api.Row{Name: "n", Lo: hasNot("2")})
	return copyOf(p)
}

// problems are what may be told, and what is refused: each of the ends of a call.
func problems() map[string]api.Problem {
	twice, none, unnamed := byHand(), byHand(), byHand()
	twice.Vars[3].Name = twice.Vars[0].Name
	none.Rows[2].Name = ""
	unnamed.Name = "-"
	bare := copyOf(api.Problem{Name: "z"})
	return map[string]api.Problem{"all kinds": byHand(), "a name": bare, "nothing": {}, "a name twice": twice, "no name": none, "the name of none": unnamed}
}

// texts are what may be read, and what is refused, under each head.
func texts() map[string]string {
	m := map[string]string{"all heads": whole, "no name": "ROWS| N -| E r| N s| L t|COLUMNS| x - 1 - 2| x s 1| y r 1|RHS| r 3|RANGES| t 1 r -1|BOUNDS| FX x 7| BV y|ENDATA", "the end": "ENDATA", "nothing": "", "a head": "Rows"}
	for head, entry := range map[string]string{"OBJSENSE": "max", "ROWS": "G c", "COLUMNS": "y g one", "RHS": "n 1", "RANGES": "g 1 c 2", "BOUNDS": "UP z 1"} {
		m[head] = base(head) + " " + entry + "|ENDATA"
	}
	for name, text := range m {
		m[name] = lined(text)
	}
	return m
}

// sharing gives two of some lists that overlap, or of which one overlaps what was handed in.
func sharing(answer, handed []piece) (a, b piece, found bool) {
	for i, x := range answer {
		for _, y := range append(answer[i+1:len(answer):len(answer)], handed...) {
			if shares(x, y) {
				return x, y, true
			}
		}
	}
	return piece{}, piece{}, false
}

// R3: a problem that is read shares no memory with the text, nor with another one, and no two of its lists do.
func TestProblemsShareNothing(t *testing.T) {
	for name, text := range texts() {
		one, err := mps.Read(text)
		two, _ := mps.Read(text)
		if err != nil {
			continue
		}
		handed := append(piecesOf(reflect.ValueOf(text)), piecesOf(reflect.ValueOf(two))...)
		if a, b, found := sharing(piecesOf(reflect.ValueOf(one)), handed); found {
			t.Errorf("%s: the problem shares memory: %v, %v", name, a, b)
		}
	}
}

// R3: a text that is told shares no memory with another one, nor with the names that were handed in.
func TestTextsShareNothing(t *testing.T) {
	for name, p := range problems() {
		one, err := mps.Write(p)
		two, _ := mps.Write(p)
		if err != nil {
			continue
		}
		handed := append(piecesOf(reflect.ValueOf(p)), piecesOf(reflect.ValueOf(two))...)
		if a, b, found := sharing(piecesOf(reflect.ValueOf(one)), handed); found {
			t.Errorf("%s: the text shares memory: %v, %v", name, a, b)
		}
	}
}

// R3: a problem that is handed in stays as it was, spare room too, also where it is refused.
func TestNothingHandedInIsChanged(t *testing.T) {
	for name, p := range problems() {
		unchanged := snapshot(&p)
		if mps.Write(p); !unchanged() {
			t.Errorf("%s: Write changed what it was handed", name)
		}
	}
}

// R3, R4: a text stays as it was, when the problem that was handed in is written over; and the next one is the same.
func TestNothingIsKeptOfProblems(t *testing.T) {
	for name, p := range problems() {
		first, one := mps.Write(p)
		was := strings.Clone(first)
		spoil(reflect.ValueOf(&p).Elem())
		mps.Write(p)
		if first != was {
			t.Errorf("%s: the text has changed:\n%s", name, first)
		}
		if third, three := mps.Write(problems()[name]); third != first || three != one {
			t.Errorf("%s:\n%s%v, and then\n%s%v", name, first, one, third, three)
		}
	}
}

// R3, R4: two readings of one text know nothing of one another, nor of those of other texts between them; a fault is told anew each time.
func TestNothingIsKeptOfTexts(t *testing.T) {
	for name, text := range texts() {
		one := readingOf(text)
		was, where := told(one.p), faultOf(one.err)
		if fault, ok := one.err.(*api.Fault); ok {
			*fault = api.Fault{}
		}
		spoil(reflect.ValueOf(&one.p).Elem())
		for _, other := range texts() {
			mps.Read(other)
		}
		if two := readingOf(text); told(two.p) != was || faultOf(two.err) != where {
			t.Errorf("%s: %s, %v, and then %s, %v", name, was, where, told(two.p), two.err)
		}
	}
}

// R3: a problem's lists and numbers may be parts of one another.
func TestListsThatShareMemory(t *testing.T) {
	three := odd("3")
	bound := api.Bound{Has: true, At: three}
	terms := []api.Term{{Coef: three}, {Var: 1, Coef: three}, {Coef: three}}
	p := api.Problem{
		Const: three,
		Vars:  []api.Var{{Name: "x", Obj: three, Lo: bound, Hi: bound}, {Name: "y", Obj: three, Lo: bound}},
		Rows:  []api.Row{{Name: "x", Terms: terms[:1], Lo: bound}, {Name: "y", Terms: terms[:2], Hi: bound}, {Name: "z", Terms: terms, Lo: bound, Hi: bound}},
	}
	unchanged := snapshot(&p)
	writes(t, p, "NAME|ROWS| N -| G x| L y| E z|COLUMNS| x - 3| x x 3| x y 3| x z 6| y - 3| y y 3| y z 3|RHS| RHS - -3| RHS x 3| RHS y 3| RHS z 3|BOUNDS| FX BND x 3| LO BND y 3|ENDATA|")
	if !unchanged() {
		t.Error("the problem has changed")
	}
}

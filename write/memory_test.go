package write_test

import (
	"reflect"
	"strings"
	"testing"
	"unsafe"

	"vertex/api"
	"vertex/write"
)

// piece is where a list lies, spare room too.
type piece struct {
	at   uintptr
	size uintptr
}

// piecesOf finds all lists and texts in a value, however deep, numbers' limbs among them.
func piecesOf(v reflect.Value) (l []piece) {
	switch v.Kind() {
	case reflect.Struct:
		for i := range v.NumField() {
			l = append(l, piecesOf(v.Field(i))...)
		}
	case reflect.Array:
		for i := range v.Len() {
			l = append(l, piecesOf(v.Index(i))...)
		}
	case reflect.Slice:
		if v.Cap() > 0 {
			l = append(l, piece{v.Pointer(), uintptr(v.Cap()) * v.Type().Elem().Size()})
		}
		for i := range v.Len() {
			l = append(l, piecesOf(v.Index(i))...)
		}
	case reflect.String:
		if v.Len() > 0 {
			l = append(l, piece{uintptr(unsafe.Pointer(unsafe.StringData(v.String()))), uintptr(v.Len())})
		}
	}
	return l
}

// shares tells whether two lists overlap.
func shares(a, b piece) bool { return a.at < b.at+b.size && b.at < a.at+a.size }

// roomy copies a value, all its lists with spare room behind them, and its texts too.
func roomy(v reflect.Value) reflect.Value {
	c := reflect.New(v.Type()).Elem()
	switch v.Kind() {
	case reflect.Struct:
		for i := range v.NumField() {
			c.Field(i).Set(roomy(v.Field(i)))
		}
	case reflect.Slice:
		if v.IsNil() {
			return c
		}
		c = reflect.MakeSlice(v.Type(), v.Len(), v.Len()+3)
		for i := range v.Len() {
			c.Index(i).Set(roomy(v.Index(i)))
		}
	case reflect.String:
		c.SetString(strings.Clone(v.String()))
	default:
		c.Set(v)
	}
	return c
}

func copyOf[T any](a T) T { return roomy(reflect.ValueOf(a)).Interface().(T) }

// spoil writes over all lists of a value, spare room too.
func spoil(v reflect.Value) {
	switch v.Kind() {
	case reflect.Struct:
		for i := range v.NumField() {
			spoil(v.Field(i))
		}
	case reflect.Slice:
		v = v.Slice(0, v.Cap())
		for i := range v.Len() {
			spoil(v.Index(i))
		}
	case reflect.Uint64:
		v.SetUint(0xabcdef)
	case reflect.Int:
		v.SetInt(-7)
	case reflect.String:
		v.SetString("spoilt")
	case reflect.Bool:
		v.SetBool(!v.Bool())
	}
}

// room shows a value with its lists' spare room as elements.
func room(v reflect.Value) reflect.Value {
	c := reflect.New(v.Type()).Elem()
	switch v.Kind() {
	case reflect.Struct:
		for i := range v.NumField() {
			c.Field(i).Set(room(v.Field(i)))
		}
	case reflect.Slice:
		if v.Cap() == 0 {
			return c
		}
		c = reflect.MakeSlice(v.Type(), v.Cap(), v.Cap())
		for i := range v.Cap() {
			c.Index(i).Set(room(v.Slice(0, v.Cap()).Index(i)))
		}
	default:
		c.Set(v)
	}
	return c
}

// snapshot holds a value, its lists' spare room too, and tells whether it is as it was.
func snapshot[T any](a *T) (unchanged func() bool) {
	shown := func() any { return room(reflect.ValueOf(a).Elem()).Interface() }
	before := shown()
	return func() bool { return reflect.DeepEqual(shown(), before) }
}

// byHand is a problem of all kinds of parts, with room behind its lists, in no one form.
func byHand() api.Problem {
	p := chapters()
	p.Vars = append(p.Vars, api.Var{Name: "w", Obj: odd("3"), Lo: hasNot("7"), Hi: api.Bound{Has: true, At: odd("18446744073709551616")}, Whole: true})
	p.Rows = append(p.Rows, api.Row{Name: "e", Terms: []api.Term{{Var: 9, Coef: odd("2")}, {Var: 3, Coef: odd("-2/3")}, {Var: -1}, {Var: 0}, {Var: 0, Coef: odd("5")}}, Lo: hasNot("2"), Hi: has("8")})
	return copyOf(p)
}

// problems are what may be told, and what is refused: each of the ends of a call.
func problems() map[string]api.Problem {
	twice, none, word := byHand(), byHand(), byHand()
	twice.Vars[3].Name = twice.Vars[0].Name
	none.Rows[4].Name = ""
	word.Name = "end"
	bare := copyOf(api.Problem{Name: "z"})
	return map[string]api.Problem{"all kinds": byHand(), "a name": bare, "nothing": {}, "a name twice": twice, "no name": none, "a word": word}
}

// R3: a text shares no memory with another one, nor with the names that were handed in.
func TestTextsShareNothing(t *testing.T) {
	for name, p := range problems() {
		one, err := write.Write(p)
		two, _ := write.Write(p)
		if err != nil {
			continue
		}
		handed := append(piecesOf(reflect.ValueOf(p)), piecesOf(reflect.ValueOf(two))...)
		for _, x := range piecesOf(reflect.ValueOf(one)) {
			for _, y := range handed {
				if shares(x, y) {
					t.Errorf("%s: the text shares memory: %v, %v", name, x, y)
				}
			}
		}
	}
}

// R3: what is handed in stays as it was, spare room too, also where it is refused.
func TestNothingHandedInIsChanged(t *testing.T) {
	for name, p := range problems() {
		unchanged := snapshot(&p)
		if write.Write(p); !unchanged() {
			t.Errorf("%s: Write changed what it was handed", name)
		}
	}
}

// R3, R4: a text stays as it was, when what was handed in is written over; and the next one is the same.
func TestNothingIsKept(t *testing.T) {
	for name, p := range problems() {
		first, one := write.Write(p)
		was := strings.Clone(first)
		spoil(reflect.ValueOf(&p).Elem())
		write.Write(p)
		if first != was {
			t.Errorf("%s: the text has changed:\n%s", name, first)
		}
		if third, three := write.Write(problems()[name]); third != first || three != one {
			t.Errorf("%s:\n%s%v, and then\n%s%v", name, first, one, third, three)
		}
	}
}

// R3: a problem's lists and numbers may be parts of one another.
func TestListsThatShareMemory(t *testing.T) {
	three := odd("3")
	bound := api.Bound{Has: true, At: three}
	terms := []api.Term{{Coef: three}, {Var: 1, Coef: three}, {Coef: three}}
	p := api.Problem{
		Const: three,
		Vars:  []api.Var{{Name: "x", Obj: three, Lo: bound, Hi: bound}, {Name: "y", Obj: three, Lo: bound}},
		Rows:  []api.Row{{Name: "x", Terms: terms[:1], Lo: bound}, {Name: "y", Terms: terms[:2], Hi: bound}, {Name: "z", Terms: terms, Lo: bound, Hi: bound}},
	}
	unchanged := snapshot(&p)
	writes(t, p, "minimize", " + 3 x + 3 y + 3", "subject to", " x: + 3 x >= 3", " y: + 3 x + 3 y <= 3", " z: + 6 x + 3 y = 3", "bounds", " x = 3", " y >= 3", "end")
	if !unchanged() {
		t.Error("the problem has changed")
	}
}

package parse_test

import (
	"reflect"
	"strings"
	"testing"
	"unsafe"

	"vertex/api"
	"vertex/parse"
)

const full = "max z: 3 x + 3 x - 1/2 y + x - x + 0 st" +
	" c1: x + 2 y = 1/2 1/2 = x 3 <= x - y + 1 <= 3 3 >= 2 + 2 >= 3 1 + 1/3 = 2 0 <= x <= 0 18446744073709551616 <= x x <= inf" +
	" bounds x = 1/2 1/2 = y 3 <= x <= 3 x free y <= 18446744073709551616 - inf <= x <= 0" +
	" int x y x bin x y free x y bounds 2 = x int z bin u end"

// piece is where a list lies, spare room too.
type piece struct {
	at   uintptr
	size uintptr
}

// piecesOf finds all lists in a value, however deep, numbers' limbs among them.
func piecesOf(v reflect.Value) (l []piece) {
	switch v.Kind() {
	case reflect.Struct:
		for i := range v.NumField() {
			l = append(l, piecesOf(v.Field(i))...)
		}
	case reflect.Slice:
		if v.Cap() > 0 {
			l = append(l, piece{v.Pointer(), uintptr(v.Cap()) * v.Type().Elem().Size()})
		}
		for i := range v.Len() {
			l = append(l, piecesOf(v.Index(i))...)
		}
	}
	return l
}

// P6.7, R3: no two lists of an answer share memory, nor do those of two answers, spare room neither.
func TestAnswersShareNothing(t *testing.T) {
	one, err := parse.Parse(full)
	if err != nil {
		t.Fatal(err)
	}
	two, _ := parse.Parse(full)
	l := piecesOf(reflect.ValueOf([]api.Text{one, two}))
	if len(l) < 100 {
		t.Fatalf("only %d lists", len(l))
	}
	for i, a := range l {
		for _, b := range l[:i] {
			if a.at < b.at+b.size && b.at < a.at+a.size {
				t.Fatalf("two lists share memory: %v, %v", a, b)
			}
		}
	}
}

// spoil writes over all lists of an answer, spare room too.
func spoil(v reflect.Value) {
	switch v.Kind() {
	case reflect.Struct:
		for i := range v.NumField() {
			spoil(v.Field(i))
		}
	case reflect.Slice:
		v = v.Slice(0, v.Cap())
		for i := range v.Len() {
			spoil(v.Index(i))
		}
	case reflect.Uint64:
		v.SetUint(0xabcdef)
	case reflect.Int:
		v.SetInt(-7)
	case reflect.String:
		v.SetString("spoilt")
	case reflect.Bool:
		v.SetBool(!v.Bool())
	}
}

// P6.7, R4: what is done to an answer changes no other one, and nothing is kept from call to call, beside a fault neither.
func TestNothingIsKept(t *testing.T) {
	first, err := parse.Parse(full)
	if err != nil {
		t.Fatal(err)
	}
	want := toldAt(first)
	for _, between := range []string{full, full + " end", full[:100], "min st x <= *", "max y st 1 = x = 2 end", ""} {
		text, _ := parse.Parse(between)
		spoil(reflect.ValueOf(&text).Elem())
		if toldAt(first) != want {
			t.Fatalf("an answer has changed, once that of %q was written over", between)
		}
		again, err := parse.Parse(full)
		if err != nil || toldAt(again) != want {
			t.Fatalf("behind %q: %s, %v, want %s", between, toldAt(again), err, want)
		}
	}
}

// R2: two faults are two values, and what is done to one doesn't change the other.
func TestFaultsAreNew(t *testing.T) {
	for _, s := range []string{"min st x <= y end", "min", "min *"} {
		_, one := parse.Parse(s)
		a, ok := one.(*api.Fault)
		if !ok {
			t.Fatalf("Parse(%q): %v", s, one)
		}
		want := *a
		*a = api.Fault{}
		if _, two := parse.Parse(s); *two.(*api.Fault) != want {
			t.Errorf("Parse(%q), once its fault was written over: %v", s, two)
		}
	}
}

// R3: names are new memory, not pieces of the text that was handed in.
func TestNamesAreNewMemory(t *testing.T) {
	s := strings.Clone(full)
	first := uintptr(unsafe.Pointer(unsafe.StringData(s)))
	text, err := parse.Parse(s)
	if err != nil {
		t.Fatal(err)
	}
	names := []string{text.Name, text.Claims[0].Name, text.Limits[0].Name, text.Wholes[0].Name, text.Twos[0].Name}
	for _, x := range append(text.Items, text.Claims[0].Items...) {
		names = append(names, x.Name)
	}
	for _, name := range names {
		if at := uintptr(unsafe.Pointer(unsafe.StringData(name))); name != "" && at >= first && at < first+uintptr(len(s)) {
			t.Errorf("%q lies in the text", name)
		}
	}
}

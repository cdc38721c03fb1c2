package crew_test

import (
	"cmp"
	"reflect"
	"runtime"
	"slices"
	"strings"
	"testing"
	"unsafe"

	"vertex/api"
	"vertex/crew"
)

// piece is where a list lies, spare room too.
type piece struct {
	at   uintptr
	size uintptr
}

// piecesOf finds all lists and texts in a value, however deep, numbers' limbs among them.
func piecesOf(v reflect.Value) (l []piece) {
	switch v.Kind() {
	case reflect.Struct:
		for i := range v.NumField() {
			l = append(l, piecesOf(v.Field(i))...)
		}
	case reflect.Slice:
		if v.Cap() > 0 {
			l = append(l, piece{v.Pointer(), uintptr(v.Cap()) * v.Type().Elem().Size()})
		}
		for i := range v.Len() {
			l = append(l, piecesOf(v.Index(i))...)
		}
	case reflect.String:
		if v.Len() > 0 {
			l = append(l, piece{uintptr(unsafe.Pointer(unsafe.StringData(v.String()))), uintptr(v.Len())})
		}
	}
	return l
}

// piecesOfAll finds all lists in some values. They are to be made ahead of it, all of them: what nobody holds any more may lend its place to what is made next.
func piecesOfAll(values []any) (l []piece) {
	for _, x := range values {
		l = append(l, piecesOf(reflect.ValueOf(x))...)
	}
	return l
}

// shares tells whether two lists overlap.
func shares(a, b piece) bool { return a.at < b.at+b.size && b.at < a.at+a.size }

// roomy copies a value, all its lists with spare room behind them, and its texts too.
func roomy(v reflect.Value) reflect.Value {
	c := reflect.New(v.Type()).Elem()
	switch v.Kind() {
	case reflect.Struct:
		for i := range v.NumField() {
			c.Field(i).Set(roomy(v.Field(i)))
		}
	case reflect.Slice:
		if v.IsNil() {
			return c
		}
		c = reflect.MakeSlice(v.Type(), v.Len(), v.Len()+3)
		for i := range v.Len() {
			c.Index(i).Set(roomy(v.Index(i)))
		}
	case reflect.String:
		c.SetString(strings.Clone(v.String()))
	default:
		c.Set(v)
	}
	return c
}

func copyOf[T any](a T) T { return roomy(reflect.ValueOf(a)).Interface().(T) }

// spoil writes over all lists of a value, spare room too.
func spoil(v reflect.Value) {
	switch v.Kind() {
	case reflect.Struct:
		for i := range v.NumField() {
			spoil(v.Field(i))
		}
	case reflect.Slice:
		v = v.Slice(0, v.Cap())
		for i := range v.Len() {
			spoil(v.Index(i))
		}
	case reflect.Uint64, reflect.Uint8:
		v.SetUint(0x6f)
	case reflect.Int:
		v.SetInt(-7)
	case reflect.String:
		v.SetString("spoilt")
	case reflect.Bool:
		v.SetBool(!v.Bool())
	}
}

func spoilt[T any](a *T) { spoil(reflect.ValueOf(a).Elem()) }

// room shows a value with its lists' spare room as elements.
func room(v reflect.Value) reflect.Value {
	c := reflect.New(v.Type()).Elem()
	switch v.Kind() {
	case reflect.Struct:
		for i := range v.NumField() {
			c.Field(i).Set(room(v.Field(i)))
		}
	case reflect.Slice:
		if v.Cap() == 0 {
			return c
		}
		c = reflect.MakeSlice(v.Type(), v.Cap(), v.Cap())
		for i := range v.Cap() {
			c.Index(i).Set(room(v.Slice(0, v.Cap()).Index(i)))
		}
	default:
		c.Set(v)
	}
	return c
}

// snapshot holds a value, its lists' spare room too, and tells whether it is as it was.
func snapshot[T any](a *T) (unchanged func() bool) {
	shown := func() any { return room(reflect.ValueOf(a).Elem()).Interface() }
	before := shown()
	return func() bool { return reflect.DeepEqual(shown(), before) }
}

// loose gives texts whose bytes may be written over behind a call, with spare room in the list.
func loose(l []string) (texts []string, bytes [][]byte) {
	texts = make([]string, 0, len(l)+3)
	for _, text := range l {
		b := []byte(text)
		texts, bytes = append(texts, unsafe.String(unsafe.SliceData(b), len(b))), append(bytes, b)
	}
	return texts, bytes
}

// manyTexts are of each verdict, and such as can't be read; some are there twice.
func manyTexts() []string {
	l := append(chances(206).texts(40), x, y, z, none, x, y, z, none, "", "max x + y st c: 36893488147419103232 x <= 1 d: y <= 36893488147419103233/2 end")
	return copyOf(l)
}

// manyProblems are in no one form, one of them there twice; the best one has lists, of numbers of two limbs.
func manyProblems() []api.Problem {
	l := append(chances(207).problems(40), problems("max x + 2 y - 147573952589676412928 st c: x <= 36893488147419103233/2 d: y - x <= 1", "min x st x >= 2", "min x st x >= 2")...)
	return copyOf(l)
}

// R3: the texts handed in, and their list with its spare room, are as they were, and may be written over behind the call, as may be the answers: the next ones are the same.
func TestTextsAreNeitherChangedNorKept(t *testing.T) {
	want := allAlone(manyTexts())
	for _, workers := range crews() {
		for range 2 {
			texts, bytes := loose(manyTexts())
			same, sameBytes := snapshot(&texts), snapshot(&bytes)
			got, err := crew.All(texts, workers)
			at, err2 := crew.First(texts, workers, api.Unbounded)
			if !same() || !sameBytes() {
				t.Errorf("%d workers: the texts aren't as they were", workers)
			}
			spoilt(&bytes)
			spoilt(&texts)
			if err != nil || err2 != nil || !slices.Equal(got, want) || at != firstOf(want, api.Unbounded) {
				t.Errorf("%d workers: %q, %d, want %q", workers, got, at, want)
			}
			spoilt(&got)
		}
	}
}

// R3: the problems handed in are as they were, spare room too, and may be written over behind the call, as may be the certificate: the next one is the same.
func TestProblemsAreNeitherChangedNorKept(t *testing.T) {
	want, best := bestOf(certsOf(manyProblems()))
	for _, workers := range crews() {
		for range 2 {
			l := manyProblems()
			same := snapshot(&l)
			at, c, err := crew.Best(l, workers)
			if !same() {
				t.Errorf("%d workers: the problems aren't as they were", workers)
			}
			spoilt(&l)
			if err != nil || at != want || told(c) != told(best) {
				t.Errorf("%d workers: %d, %s, %v, want %d, %s", workers, at, told(c), err, want, told(best))
			}
			spoilt(&c)
		}
	}
	if len(best.X) == 0 || len(best.Y) == 0 || len(best.Value.Num.Mag) < 2 {
		t.Errorf("the best one proves little: %s", told(best))
	}
}

// R3: what is answered shares no memory with what was handed in, nor with another answer; no two lists of one do, and no two texts.
func TestAnswersShareNothing(t *testing.T) {
	texts, l := manyTexts(), manyProblems()
	values := []any{texts, l}
	for _, workers := range crews() {
		answers, err := crew.All(texts, workers)
		_, c, err2 := crew.Best(l, workers)
		if err != nil || err2 != nil {
			t.Fatal(err, err2)
		}
		values = append(values, answers, c)
	}
	pieces := piecesOfAll(values)
	slices.SortFunc(pieces, func(a, b piece) int { return cmp.Compare(a.at, b.at) })
	for i := 1; i < len(pieces); i++ {
		if shares(pieces[i-1], pieces[i]) {
			t.Fatalf("an answer shares memory: %v, %v", pieces[i-1], pieces[i])
		}
	}
	if len(pieces) < 600 {
		t.Errorf("only %d pieces", len(pieces))
	}
	// What is told by values alone must be held till it is compared.
	runtime.KeepAlive(values)
}

// R3: a nil list and an empty one are the same; what lies in a list's spare room doesn't count.
func TestEmptyLists(t *testing.T) {
	for _, texts := range [][]string{nil, {}, []string{x, y, none}[:0]} {
		for _, workers := range crews() {
			answersAll(t, texts, workers, nil)
			for _, verdict := range verdicts() {
				answersFirst(t, texts, workers, verdict, -1)
			}
		}
	}
	for _, l := range [][]api.Problem{nil, {}, problems("min st")[:0]} {
		for _, workers := range crews() {
			answersBest(t, l, workers, -1, nothing)
		}
	}
	answersAll(t, []string{x, y, none}[:1], 4, []string{answerX})
	answersFirst(t, []string{x, y, none}[:1], 4, api.Unbounded, -1)
	answersBest(t, problems("min 3 st", "min 2 st")[:1], 4, 0, "optimal, value 3")
}

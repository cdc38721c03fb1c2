package check_test

import (
	"reflect"
	"strings"
	"testing"
	"unsafe"

	"vertex/api"
	"vertex/check"
)

// piece is where a list lies, spare room too.
type piece struct {
	at   uintptr
	size uintptr
}

// piecesOf finds all lists and texts in a value, however deep, numbers' limbs among them.
func piecesOf(v reflect.Value) (l []piece) {
	switch v.Kind() {
	case reflect.Struct:
		for i := range v.NumField() {
			l = append(l, piecesOf(v.Field(i))...)
		}
	case reflect.Slice:
		if v.Cap() > 0 {
			l = append(l, piece{v.Pointer(), uintptr(v.Cap()) * v.Type().Elem().Size()})
		}
		for i := range v.Len() {
			l = append(l, piecesOf(v.Index(i))...)
		}
	case reflect.String:
		if v.Len() > 0 {
			l = append(l, piece{uintptr(unsafe.Pointer(unsafe.StringData(v.String()))), uintptr(v.Len())})
		}
	}
	return l
}

// piecesOfAll finds all lists in some values. They are to be made ahead of it, all of them: what nobody holds any more may lend its place to what is made next.
func piecesOfAll(values []any) (l []piece) {
	for _, x := range values {
		l = append(l, piecesOf(reflect.ValueOf(x))...)
	}
	return l
}

// shares tells whether two lists overlap.
func shares(a, b piece) bool { return a.at < b.at+b.size && b.at < a.at+a.size }

// roomy copies a value, all its lists with spare room behind them, and its texts too.
func roomy(v reflect.Value) reflect.Value {
	c := reflect.New(v.Type()).Elem()
	switch v.Kind() {
	case reflect.Struct:
		for i := range v.NumField() {
			c.Field(i).Set(roomy(v.Field(i)))
		}
	case reflect.Slice:
		if v.IsNil() {
			return c
		}
		c = reflect.MakeSlice(v.Type(), v.Len(), v.Len()+3)
		for i := range v.Len() {
			c.Index(i).Set(roomy(v.Index(i)))
		}
	case reflect.String:
		c.SetString(strings.Clone(v.String()))
	default:
		c.Set(v)
	}
	return c
}

func copyOf[T any](a T) T { return roomy(reflect.ValueOf(a)).Interface().(T) }

// spoil writes over all lists of a value, spare room too.
func spoil(v reflect.Value) {
	switch v.Kind() {
	case reflect.Struct:
		for i := range v.NumField() {
			spoil(v.Field(i))
		}
	case reflect.Slice:
		v = v.Slice(0, v.Cap())
		for i := range v.Len() {
			spoil(v.Index(i))
		}
	case reflect.Uint64:
		v.SetUint(0xabcdef)
	case reflect.Int:
		v.SetInt(-7)
	case reflect.String:
		v.SetString("spoilt")
	case reflect.Bool:
		v.SetBool(!v.Bool())
	}
}

func spoilt[T any](a *T) { spoil(reflect.ValueOf(a).Elem()) }

// room shows a value with its lists' spare room as elements.
func room(v reflect.Value) reflect.Value {
	c := reflect.New(v.Type()).Elem()
	switch v.Kind() {
	case reflect.Struct:
		for i := range v.NumField() {
			c.Field(i).Set(room(v.Field(i)))
		}
	case reflect.Slice:
		if v.Cap() == 0 {
			return c
		}
		c = reflect.MakeSlice(v.Type(), v.Cap(), v.Cap())
		for i := range v.Cap() {
			c.Index(i).Set(room(v.Slice(0, v.Cap()).Index(i)))
		}
	default:
		c.Set(v)
	}
	return c
}

// snapshot holds a value, its lists' spare room too, and tells whether it is as it was.
func snapshot[T any](a *T) (unchanged func() bool) {
	shown := func() any { return room(reflect.ValueOf(a).Elem()).Interface() }
	before := shown()
	return func() bool { return reflect.DeepEqual(shown(), before) }
}

// byHand are problems and certificates of each verdict, in either sense, in no one form, right ones and wrong ones, with room behind their lists.
func byHand() (problems []api.Problem, certs []api.Cert) {
	r := chances(7)
	add := func(p api.Problem, c api.Cert) {
		p.Name = "objective"
		for j := range p.Vars {
			p.Vars[j].Name = "x"
		}
		problems, certs = append(problems, copyOf(p)), append(certs, copyOf(c))
	}
	for range 80 {
		add(r.pair(r.size()))
	}
	// A problem that is proven by Const alone: what is answered is that number, in other memory.
	add(api.Problem{Const: num("18446744073709551617/3"), Rows: make([]api.Row, 2)}, api.Cert{Verdict: api.Optimal, Value: num("18446744073709551617/3"), Y: list("0 0")})
	add(api.Problem{Const: odd("7/2"), Max: true}, api.Cert{Verdict: api.Optimal, Value: odd("7/2")})
	// One that is proven by one bound alone.
	add(api.Problem{Vars: []api.Var{{Obj: num("1"), Lo: has("18446744073709551617/5")}}}, optimal("18446744073709551617/5", "18446744073709551617/5", ""))
	add(api.Problem{Rows: []api.Row{{Lo: has("18446744073709551617/5")}}}, infeasible("1"))
	return problems, certs
}

// The pairs of these tests are of each verdict, in either sense, accepted and not.
func TestByHand(t *testing.T) {
	count := map[string]int{}
	problems, certs := byHand()
	for k, p := range problems {
		count[senseOf(p)+" "+verdictOf(certs[k].Verdict)+map[bool]string{true: " nil"}[check.Check(p, certs[k]) == nil]]++
	}
	enough(t, 1, count, "min optimal nil", "max optimal nil", "min infeasible nil", "max infeasible nil", "min unbounded nil", "max unbounded nil", "min optimal", "min infeasible", "max unbounded")
}

// R3: what Prove answers shares no memory with the problem or the multipliers, nor with another answer; no two lists of it do.
func TestAnswersShareNothing(t *testing.T) {
	problems, certs := byHand()
	var values []any
	answers := 0
	for k, p := range problems {
		values = append(values, p, certs[k])
		for range 2 {
			if proven, err := check.Prove(p, certs[k].Y); err == nil {
				values, answers = append(values, proven), answers+1
			}
		}
	}
	if answers < 20 {
		t.Errorf("only %d answers", answers)
	}
	pieces := piecesOfAll(values)
	for i, x := range pieces {
		for _, y := range pieces[:i] {
			if shares(x, y) {
				t.Fatalf("an answer shares memory: %v, %v", x, y)
			}
		}
	}
}

// R3: the problem, the multipliers and the certificate handed in are as they were, spare room too.
func TestNothingHandedInIsChanged(t *testing.T) {
	problems, certs := byHand()
	for k, p := range problems {
		c := certs[k]
		same, sameCert := snapshot(&p), snapshot(&c)
		check.Prove(p, c.Y)
		if !same() || !sameCert() {
			t.Errorf("pair %d: not all is as it was behind Prove: the problem: %v, the multipliers: %v", k, same(), sameCert())
		}
		for verdict := range 5 {
			c.Verdict = verdict
			sameCert := snapshot(&c)
			check.Check(p, c)
			if !same() || !sameCert() {
				t.Errorf("pair %d, verdict %d: not all is as it was behind Check: the problem: %v, the certificate: %v", k, verdict, same(), sameCert())
			}
		}
	}
}

// R3, R4: what was handed in may be written over, and so may what came out: it is its owner's, and the next answers are the same.
func TestNothingIsKept(t *testing.T) {
	problems, certs := byHand()
	for k, first := range problems {
		wantProven, want := provenOf(t, first, certs[k].Y), check.Check(first, certs[k])
		for range 2 {
			p, c := copyOf(first), copyOf(certs[k])
			checks(t, p, c, want)
			proven, err := check.Prove(p, c.Y)
			spoilt(&p)
			spoilt(&c)
			if err == nil && numberOf(proven) != wantProven || err != nil && errorOf(err) != wantProven {
				t.Errorf("pair %d: %s, %v, want %s", k, numberOf(proven), err, wantProven)
			}
			spoilt(&proven)
		}
	}
}

// R3: what is handed in may share memory in itself: a certificate's lists may be one list, a problem's numbers one number.
func TestListsThatShareMemory(t *testing.T) {
	three := odd("3")
	l := []api.Rat{three, three, three}
	bound := api.Bound{Has: true, At: three}
	terms := []api.Term{{Coef: three}, {Var: 1, Coef: three}, {Coef: three}}
	p := api.Problem{
		Max:   true,
		Const: three,
		Vars:  []api.Var{{Obj: three, Lo: bound, Hi: bound}, {Obj: three, Lo: bound}},
		Rows:  []api.Row{{Terms: terms[:1], Lo: bound, Hi: bound}, {Terms: terms, Lo: bound, Hi: bound}},
	}
	c := api.Cert{Value: three, X: l[:2], Y: l[1:], Ray: l[:2]}
	same, sameCert := snapshot(&p), snapshot(&c)
	// Left are 3 - 9 - 18 of the first, 3 - 9 of the second variable.
	proves(t, p, c.Y, "-69")
	for verdict, want := range []error{api.ErrVerdict, api.ErrPoint, api.ErrBound, api.ErrPoint} {
		other := c
		other.Verdict = verdict
		checks(t, p, other, want)
	}
	if !same() || !sameCert() {
		t.Error("not all is as it was")
	}
}

// R4: many may ask at the same time, of one problem and one certificate.
func TestAskedSideBySide(t *testing.T) {
	problems, certs := byHand()
	all := func() string {
		var s strings.Builder
		for k, p := range problems {
			s.WriteString(provenOf(t, p, certs[k].Y) + errorOf(check.Check(p, certs[k])) + " ")
		}
		return s.String()
	}
	want, got := all(), make(chan string)
	for range 8 {
		go func() { got <- all() }()
	}
	for range 8 {
		if a := <-got; a != want {
			t.Errorf("%s, want %s", a, want)
		}
	}
}

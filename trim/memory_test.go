package trim_test

import (
	"cmp"
	"reflect"
	"slices"
	"strconv"
	"strings"
	"testing"
	"unsafe"

	"vertex/api"
	"vertex/back"
	"vertex/trim"
)

// piece is where a list lies, spare room too.
type piece struct {
	at   uintptr
	size uintptr
}

// piecesOf finds all lists and texts in a value, however deep, numbers' limbs among them.
func piecesOf(v reflect.Value) (l []piece) {
	switch v.Kind() {
	case reflect.Struct:
		for i := range v.NumField() {
			l = append(l, piecesOf(v.Field(i))...)
		}
	case reflect.Slice:
		if v.Cap() > 0 {
			l = append(l, piece{v.Pointer(), uintptr(v.Cap()) * v.Type().Elem().Size()})
		}
		for i := range v.Len() {
			l = append(l, piecesOf(v.Index(i))...)
		}
	case reflect.String:
		if v.Len() > 0 {
			l = append(l, piece{uintptr(unsafe.Pointer(unsafe.StringData(v.String()))), uintptr(v.Len())})
		}
	}
	return l
}

// piecesOfAll finds all lists in some values. They are to be made ahead of it, all of them: what nobody holds any more may lend its place to what is made next.
func piecesOfAll(values []any) (l []piece) {
	for _, x := range values {
		l = append(l, piecesOf(reflect.ValueOf(x))...)
	}
	return l
}

// shares tells whether two lists overlap.
func shares(a, b piece) bool { return a.at < b.at+b.size && b.at < a.at+a.size }

// roomy copies a value, all its lists with spare room behind them, and its texts too.
func roomy(v reflect.Value) reflect.Value {
	c := reflect.New(v.Type()).Elem()
	switch v.Kind() {
	case reflect.Struct:
		for i := range v.NumField() {
			c.Field(i).Set(roomy(v.Field(i)))
		}
	case reflect.Slice:
		if v.IsNil() {
			return c
		}
		c = reflect.MakeSlice(v.Type(), v.Len(), v.Len()+3)
		for i := range v.Len() {
			c.Index(i).Set(roomy(v.Index(i)))
		}
	case reflect.String:
		c.SetString(strings.Clone(v.String()))
	default:
		c.Set(v)
	}
	return c
}

func copyOf[T any](a T) T { return roomy(reflect.ValueOf(a)).Interface().(T) }

// spoil writes over all lists of a value, spare room too.
func spoil(v reflect.Value) {
	switch v.Kind() {
	case reflect.Struct:
		for i := range v.NumField() {
			spoil(v.Field(i))
		}
	case reflect.Slice:
		v = v.Slice(0, v.Cap())
		for i := range v.Len() {
			spoil(v.Index(i))
		}
	case reflect.Uint64:
		v.SetUint(0xabcdef)
	case reflect.Int:
		v.SetInt(-7)
	case reflect.String:
		v.SetString("spoilt")
	case reflect.Bool:
		v.SetBool(!v.Bool())
	}
}

func spoilt[T any](a *T) { spoil(reflect.ValueOf(a).Elem()) }

// room shows a value with its lists' spare room as elements.
func room(v reflect.Value) reflect.Value {
	c := reflect.New(v.Type()).Elem()
	switch v.Kind() {
	case reflect.Struct:
		for i := range v.NumField() {
			c.Field(i).Set(room(v.Field(i)))
		}
	case reflect.Slice:
		if v.Cap() == 0 {
			return c
		}
		c = reflect.MakeSlice(v.Type(), v.Cap(), v.Cap())
		for i := range v.Cap() {
			c.Index(i).Set(room(v.Slice(0, v.Cap()).Index(i)))
		}
	default:
		c.Set(v)
	}
	return c
}

// snapshot holds a value, its lists' spare room too, and tells whether it is as it was.
func snapshot[T any](a *T) (unchanged func() bool) {
	shown := func() any { return room(reflect.ValueOf(a).Elem()).Interface() }
	before := shown()
	return func() bool { return reflect.DeepEqual(shown(), before) }
}

// byHand are problems of which something goes, of each verdict, in either sense, in no one form, with room behind their lists.
func byHand() (l []api.Problem) {
	great := api.Bound{Has: true, At: odd("18446744073709551616")}
	first := api.Problem{
		Name:  "profit",
		Const: odd("1/2"),
		Vars: []api.Var{
			{Name: "fixed", Obj: odd("3"), Lo: great, Hi: great},
			{Name: "bounded", Obj: odd("5"), Hi: great},
			{Name: "alone", Obj: odd("-1/3"), Lo: hasNot("2"), Hi: great},
			{Name: "left", Obj: odd("7"), Lo: api.Bound{Has: true, At: noughts()[3]}, Whole: true},
		},
		Rows: []api.Row{
			{Name: "bound", Terms: []api.Term{{Var: 1, Coef: odd("2")}, {Var: 9, Coef: odd("1")}}, Lo: great},
			{Name: "empty", Lo: hasNot("3"), Hi: api.Bound{Has: true, At: odd("5")}},
			{Name: "left", Terms: []api.Term{{Var: 3, Coef: odd("1")}, {Var: 1, Coef: odd("1/3")}, {Var: 0, Coef: odd("1")}}, Lo: great},
			{Name: "later", Terms: []api.Term{{Var: 0, Coef: odd("1")}, {Var: 3, Coef: odd("1")}}, Lo: great},
		},
	}
	nowhere := copyOf(first)
	nowhere.Rows = append(nowhere.Rows, api.Row{Name: "never", Terms: []api.Term{{Var: 1, Coef: odd("2")}, {Var: 3, Coef: odd("-1")}}, Lo: api.Bound{Has: true, At: odd("36893488147419103233")}})
	endless := copyOf(first)
	endless.Vars = append(endless.Vars, api.Var{Name: "endless", Obj: odd("7")})
	for _, p := range []api.Problem{first, nowhere, endless} {
		other := copyOf(p)
		other.Max = true
		for j := range other.Vars {
			other.Vars[j].Obj = odd(turn(toBig(other.Vars[j].Obj)).RatString())
		}
		l = append(l, p, other)
	}
	r := chances(7)
	for range 20 {
		p, _ := r.problem()
		l = append(l, p)
	}
	return copyOf(append(l, api.Problem{}))
}

// certsByHand are certificates of numbers of all forms, of each verdict and of others, with room behind their lists.
func certsByHand() (l []api.Cert) {
	for _, verdict := range []int{api.Optimal, api.Infeasible, api.Unbounded, 0, api.Stopped} {
		l = append(l, api.Cert{Verdict: verdict, Value: odd("-18446744073709551616/3"), X: append(noughts()[3:], odd("3")), Y: odds("-3 1/2 36893488147419103232/5"), Ray: append(odds("-3"), num("18446744073709551616"))})
	}
	return copyOf(l)
}

// The problems of these tests have each of the verdicts, in either sense, and of most something goes.
func TestByHand(t *testing.T) {
	count := map[string]int{}
	for _, p := range byHand() {
		u := trim.Of(p)
		b := u.Cert(back.Solve(u.Problem()))
		if !isProof(p, b) {
			t.Errorf("%s is no certificate of %s", toldCert(b), told(p))
		}
		if s := secondOf(p); isBorne(s, b) && len(s.problem().Vars) > 0 {
			count["borne, with something left"]++
		}
		count[senseOf(p)+" "+verdictOf(b.Verdict)]++
		if u.Steps() > 2 {
			count["steps"]++
		}
	}
	enough(t, 1, count, "min optimal", "max optimal", "min infeasible", "max infeasible", "min unbounded", "max unbounded")
	enough(t, 5, count, "steps", "borne, with something left")
}

// R3: answers share no memory with one another, of one call and of two, nor with what was handed in.
func TestAnswersShareNothing(t *testing.T) {
	var values []any
	add := func(x any) { values = append(values, x) }
	for _, p := range byHand() {
		add(p)
		for range 2 {
			u := trim.Of(p)
			add(u.Problem())
			add(u.Problem())
			for _, c := range certsByHand() {
				add(c)
				add(u.Cert(c))
				add(u.Cert(c))
			}
		}
	}
	pieces := piecesOfAll(values)
	slices.SortFunc(pieces, func(a, b piece) int { return cmp.Compare(a.at, b.at) })
	for i := 1; i < len(pieces); i++ {
		if shares(pieces[i-1], pieces[i]) {
			t.Fatalf("answers share memory: %v, %v", pieces[i-1], pieces[i])
		}
	}
}

// asked is all that a Trim answers.
func asked(u *trim.Trim) string {
	s := told(u.Problem()) + " " + strconv.Itoa(u.Steps())
	for _, c := range certsByHand() {
		s += "; " + toldCert(u.Cert(c))
	}
	return s
}

// P15.9, R3: the problem and the certificate handed in are as they were, spare room too.
func TestNothingHandedInIsChanged(t *testing.T) {
	for k, p := range byHand() {
		same := snapshot(&p)
		u := trim.Of(p)
		u.Problem()
		for _, c := range certsByHand() {
			sameCert := snapshot(&c)
			if u.Cert(c); !same() || !sameCert() {
				t.Errorf("problem %d, verdict %d: not all is as it was: the problem: %v, the certificate: %v", k, c.Verdict, same(), sameCert())
			}
		}
	}
}

// P15.9, R3: what was handed in may be written over, and so may what came out: it is its owner's, and a Trim answers the same again.
func TestNothingIsKept(t *testing.T) {
	for k, first := range byHand() {
		want := asked(trim.Of(first))
		p := byHand()[k]
		u := trim.Of(p)
		spoilt(&p)
		for range 2 {
			if got := asked(u); got != want {
				t.Fatalf("%s, want\n%s", got, want)
			}
			q := u.Problem()
			spoilt(&q)
			for _, c := range certsByHand() {
				b := u.Cert(c)
				before := toldCert(b)
				spoilt(&c)
				if got := toldCert(b); got != before {
					t.Errorf("%s, want %s", got, before)
				}
				spoilt(&b)
			}
		}
	}
}

// P15.9, R4: a certificate asked again, with others between, is brought back to the same.
func TestAskedAgain(t *testing.T) {
	for _, p := range byHand() {
		u := trim.Of(p)
		for _, c := range certsByHand() {
			want := toldCert(u.Cert(c))
			for _, between := range certsByHand() {
				u.Cert(between)
				if got := toldCert(u.Cert(c)); got != want {
					t.Fatalf("%s, want %s", got, want)
				}
			}
		}
	}
}

// R4: two Trims know nothing of one another, be they of one problem or of two.
func TestTwoTrims(t *testing.T) {
	problems := byHand()
	var wants []string
	for _, p := range problems {
		wants = append(wants, asked(trim.Of(p)))
	}
	var trims []*trim.Trim
	for range 2 {
		for _, p := range problems {
			trims = append(trims, trim.Of(p))
		}
	}
	for k, u := range trims {
		if got := asked(u); got != wants[k%len(wants)] {
			t.Errorf("%s, want %s", got, wants[k%len(wants)])
		}
	}
}

// R3: what is handed in may share memory in itself: a certificate's lists may be one list, a problem's numbers one number.
func TestListsThatShareMemory(t *testing.T) {
	three := odd("3")
	l := []api.Rat{odd("-2"), three, three, three}
	bound := api.Bound{Has: true, At: three}
	terms := []api.Term{{Coef: three}, {Var: 1, Coef: three}, {Var: 2, Coef: three}, {Coef: three}}
	p := api.Problem{
		Const: three,
		Vars:  []api.Var{{Obj: three, Lo: bound, Hi: bound}, {Obj: three, Hi: bound}, {Obj: three}},
		Rows:  []api.Row{{Terms: terms[1:2], Lo: bound}, {Terms: terms, Lo: bound, Hi: bound}, {Terms: terms[:1], Lo: bound}},
	}
	same := snapshot(&p)
	u := trim.Of(p)
	if got := told(u.Problem()); got != "min : 12 |  3 from 1 to 3 |  3 from none to none | : 3@0 3@1 from -15 to -15" {
		t.Error(got)
	}
	for verdict, want := range []string{"0", "optimal 3, X 3 -2 3, Y 3 -2 0", "infeasible, Y 2 -2 0", "unbounded, X 3 -2 3, Ray 0 3 3"} {
		c := api.Cert{Verdict: verdict, Value: three, X: l, Y: l, Ray: l[1:]}
		sameCert := snapshot(&c)
		if got := toldCert(u.Cert(c)); got != want || !same() || !sameCert() {
			t.Errorf("%s, want %s", got, want)
		}
	}
}

// R4: many may ask one Trim at the same time.
func TestAskedSideBySide(t *testing.T) {
	p := byHand()[0]
	u := trim.Of(p)
	want, got := asked(u), make(chan string)
	for range 8 {
		go func() { got <- asked(u) + asked(trim.Of(p)) }()
	}
	for range 8 {
		if a := <-got; a != want+want {
			t.Errorf("%s, want %s", a, want)
		}
	}
}

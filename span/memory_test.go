package span_test

import (
	"cmp"
	"reflect"
	"slices"
	"strconv"
	"strings"
	"testing"
	"unsafe"

	"vertex/api"
	"vertex/climb"
	"vertex/span"
)

// piece is where a list lies, spare room too.
type piece struct {
	at   uintptr
	size uintptr
}

// piecesOf finds all lists and texts in a value, however deep, numbers' limbs among them.
func piecesOf(v reflect.Value) (l []piece) {
	switch v.Kind() {
	case reflect.Struct:
		for i := range v.NumField() {
			l = append(l, piecesOf(v.Field(i))...)
		}
	case reflect.Slice:
		if v.Cap() > 0 {
			l = append(l, piece{v.Pointer(), uintptr(v.Cap()) * v.Type().Elem().Size()})
		}
		for i := range v.Len() {
			l = append(l, piecesOf(v.Index(i))...)
		}
	case reflect.String:
		if v.Len() > 0 {
			l = append(l, piece{uintptr(unsafe.Pointer(unsafe.StringData(v.String()))), uintptr(v.Len())})
		}
	}
	return l
}

// piecesOfAll finds all lists in some values. They are to be made ahead of it, all of them: what nobody holds any more may lend its place to what is made next.
func piecesOfAll(values []any) (l []piece) {
	for _, x := range values {
		l = append(l, piecesOf(reflect.ValueOf(x))...)
	}
	return l
}

// shares tells whether two lists overlap.
func shares(a, b piece) bool { return a.at < b.at+b.size && b.at < a.at+a.size }

// roomy copies a value, all its lists with spare room behind them, and its texts too.
func roomy(v reflect.Value) reflect.Value {
	c := reflect.New(v.Type()).Elem()
	switch v.Kind() {
	case reflect.Struct:
		for i := range v.NumField() {
			c.Field(i).Set(roomy(v.Field(i)))
		}
	case reflect.Slice:
		if v.IsNil() {
			return c
		}
		c = reflect.MakeSlice(v.Type(), v.Len(), v.Len()+3)
		for i := range v.Len() {
			c.Index(i).Set(roomy(v.Index(i)))
		}
	case reflect.String:
		c.SetString(strings.Clone(v.String()))
	default:
		c.Set(v)
	}
	return c
}

func copyOf[T any](a T) T { return roomy(reflect.ValueOf(a)).Interface().(T) }

// spoil writes over all lists of a value, spare room too.
func spoil(v reflect.Value) {
	switch v.Kind() {
	case reflect.Struct:
		for i := range v.NumField() {
			spoil(v.Field(i))
		}
	case reflect.Slice:
		v = v.Slice(0, v.Cap())
		for i := range v.Len() {
			spoil(v.Index(i))
		}
	case reflect.Uint64:
		v.SetUint(0xabcdef)
	case reflect.Int:
		v.SetInt(-7)
	case reflect.String:
		v.SetString("spoilt")
	case reflect.Bool:
		v.SetBool(!v.Bool())
	}
}

func spoilt[T any](a *T) { spoil(reflect.ValueOf(a).Elem()) }

// room shows a value with its lists' spare room as elements.
func room(v reflect.Value) reflect.Value {
	c := reflect.New(v.Type()).Elem()
	switch v.Kind() {
	case reflect.Struct:
		for i := range v.NumField() {
			c.Field(i).Set(room(v.Field(i)))
		}
	case reflect.Slice:
		if v.Cap() == 0 {
			return c
		}
		c = reflect.MakeSlice(v.Type(), v.Cap(), v.Cap())
		for i := range v.Cap() {
			c.Index(i).Set(room(v.Slice(0, v.Cap()).Index(i)))
		}
	default:
		c.Set(v)
	}
	return c
}

// snapshot holds a value, its lists' spare room too, and tells whether it is as it was.
func snapshot[T any](a *T) (unchanged func() bool) {
	shown := func() any { return room(reflect.ValueOf(a).Elem()).Interface() }
	before := shown()
	return func() bool { return reflect.DeepEqual(shown(), before) }
}

// question is a standard, a list and a right side, of which all is asked.
type question struct {
	S     api.Standard
	Basis []int
	T     api.Rat
}

// byHand are standards and lists of which some are states and some aren't, with right sides within spans and beyond, with room behind their lists, in no one form.
func byHand() []question {
	great := num("36893488147419103232/3")
	ordinary := api.Standard{
		A: [][]api.Rat{{odd("1"), odd("1"), odd("1"), noughts()[3]}, {odd("-1"), odd("-3"), noughts()[4], odd("-1"), odd("9")}, {odd("-2"), num("-2"), odd("-2")}, {}, list("1 1")},
		B: []api.Rat{odd("4"), odd("-6"), num("-8"), {}},
		C: []api.Rat{odd("-3"), odd("-2"), noughts()[2], {}},
		K: odd("-1/2"),
	}
	single := copyOf(ordinary)
	single.A, single.B = single.A[:2], single.B[:2]
	far := copyOf(single)
	far.B[1], far.C[1], far.K = fromBig(turn(toBig(great))), great, great
	nowhere := copyOf(ordinary)
	nowhere.B[2] = odd("9")
	return copyOf([]question{
		{ordinary, []int{0, 3}, odd("4")}, {ordinary, []int{3, 9, 0, 3, -1}, num("-6")}, {ordinary, []int{1, 3}, odd("4")},
		{single, []int{0, 3}, odd("5")}, {single, []int{0, 3}, noughts()[4]}, {single, []int{3, 0, 0, 7}, odd("-7")}, {single, []int{0}, num("5")},
		{far, []int{0, 3}, odd("7/2")}, {far, []int{3, 0}, odd("-36893488147419103232")}, {nowhere, []int{0, 3}, odd("4")},
		{api.Standard{C: []api.Rat{odd("3"), {}}}, []int{5}, great}, {api.Standard{}, nil, api.Rat{}},
	})
}

// spans are what Cost or Right answer.
type spans struct {
	Lo, Hi api.Bound
	Err    string
}

// answers are all that is answered to a question: by columns, and by rows.
type answers struct {
	Costs, Rights []spans
	Values        []api.Rat
	Errs          []string
}

func ask(q question) (a answers) {
	for j := range len(q.S.C) + 1 {
		lo, hi, err := span.Cost(q.S, q.Basis, j)
		a.Costs = append(a.Costs, spans{lo, hi, errorOf(err)})
	}
	for i := range len(q.S.B) + 1 {
		lo, hi, err := span.Right(q.S, q.Basis, i)
		a.Rights = append(a.Rights, spans{lo, hi, errorOf(err)})
		v, err := span.At(q.S, q.Basis, i, q.T)
		a.Values, a.Errs = append(a.Values, v), append(a.Errs, errorOf(err))
	}
	return a
}

// told writes all answers out.
func (a answers) told() (s string) {
	for _, x := range slices.Concat(a.Costs, a.Rights) {
		s += boundOf(x.Lo) + ", " + boundOf(x.Hi) + ", " + x.Err + "; "
	}
	for i, v := range a.Values {
		s += numberOf(v) + ", " + a.Errs[i] + "; "
	}
	return s
}

// numbers are those of all answers, without the texts of the tests' own.
func (a answers) numbers() (l []any) {
	for _, x := range slices.Concat(a.Costs, a.Rights) {
		l = append(l, x.Lo, x.Hi)
	}
	return append(l, a.Values)
}

// problemsByHand are problems of all bounds and terms, in either sense, in no one form, with room behind their lists.
func problemsByHand() (l []api.Problem) {
	great := api.Bound{Has: true, At: odd("36893488147419103232/3")}
	p := api.Problem{
		Name:  "cost",
		Const: odd("1/2"),
		Vars: []api.Var{
			{Name: "x", Obj: odd("3"), Lo: great, Hi: great, Whole: true},
			{Name: "y", Obj: odd("-5"), Hi: great},
			{Name: "z", Obj: noughts()[3], Lo: api.Bound{Has: true, At: noughts()[4]}},
			{Name: "free", Obj: great.At, Lo: hasNot("3")},
		},
		Rows: []api.Row{
			{Name: "a", Terms: []api.Term{{Var: 1, Coef: odd("2")}, {Var: 9, Coef: odd("1")}, {Var: 0, Coef: great.At}}, Lo: great, Hi: great},
			{Name: "b", Terms: []api.Term{{Var: 3, Coef: odd("1")}, {Var: 3, Coef: odd("-1")}, {Var: 2, Coef: num("1")}}, Lo: has("2")},
			{Name: "c", Hi: has("-5/3")},
		},
	}
	l = append(l, p, api.Problem{}, allBounds())
	r := chances(7)
	for range 20 {
		l = append(l, r.problem(6, 6))
	}
	for _, p := range l {
		p.Max = !p.Max
		l = append(l, p)
	}
	return copyOf(l)
}

// The questions of these tests come to spans of all kinds, and to each error.
func TestByHand(t *testing.T) {
	count := map[string]int{}
	for _, q := range byHand() {
		costsAsTold(t, q.S, q.Basis, count)
		rightsAsTold(t, chances(1), q.S, q.Basis, count)
		a := ask(q)
		for _, x := range slices.Concat(a.Costs, a.Rights) {
			count[x.Err]++
			count["both "+strconv.FormatBool(x.Lo.Has && x.Hi.Has)]++
		}
		for _, err := range a.Errs {
			count["At "+err]++
		}
	}
	enough(t, 3, count, "nil", "ErrArg", "ErrState", "both true", "both false", "At nil", "At ErrArg", "At ErrState")
	enough(t, 1, count, "turned ends that touch", "not turned ends that touch", "turned hi", "not turned both ends", "a row on which one that is gone hangs", "a row on which none that is gone hangs")
}

// R3: answers share no memory with one another, of one call and of two, nor with what was handed in; no two lists of one answer do.
func TestAnswersShareNothing(t *testing.T) {
	var values []any
	for _, q := range byHand() {
		values = append(values, q)
		for range 2 {
			values = append(values, ask(q).numbers()...)
		}
	}
	for _, p := range problemsByHand() {
		values = append(values, p, span.Dual(p), span.Dual(p))
	}
	pieces := piecesOfAll(values)
	slices.SortFunc(pieces, func(a, b piece) int { return cmp.Compare(a.at, b.at) })
	for i := 1; i < len(pieces); i++ {
		if shares(pieces[i-1], pieces[i]) {
			t.Fatalf("answers share memory: %v, %v", pieces[i-1], pieces[i])
		}
	}
}

// R3: what is handed in stays as it was, spare room too.
func TestNothingHandedInIsChanged(t *testing.T) {
	for k, q := range byHand() {
		unchanged := snapshot(&q)
		if ask(q); !unchanged() {
			t.Errorf("question %d isn't as it was", k)
		}
	}
	for k, p := range problemsByHand() {
		unchanged := snapshot(&p)
		if span.Dual(p); !unchanged() {
			t.Errorf("problem %d isn't as it was", k)
		}
	}
}

// R3, R4: what came out may be written over, and so may what was handed in: the next answers are the same.
func TestNothingIsKept(t *testing.T) {
	for k, fresh := range byHand() {
		want := ask(fresh).told()
		for range 2 {
			q := byHand()[k]
			a := ask(q)
			if spoilt(&q); a.told() != want {
				t.Errorf("%s, want %s", a.told(), want)
			}
			spoilt(&a)
		}
	}
	for k, fresh := range problemsByHand() {
		want := told(span.Dual(fresh))
		for range 2 {
			p := problemsByHand()[k]
			d := span.Dual(p)
			if spoilt(&p); told(d) != want {
				t.Errorf("%s, want %s", told(d), want)
			}
			spoilt(&d)
		}
	}
}

// R3: what is handed in may share memory in itself: lists may be parts of one another, and numbers one number.
func TestListsThatShareMemory(t *testing.T) {
	three := odd("3")
	l := []api.Rat{three, three, num("1"), three}
	q := question{api.Standard{A: [][]api.Rat{l, l[1:], l}, B: []api.Rat{three, three, three}, C: l[:3], K: three}, []int{0, 2}, three}
	unchanged := snapshot(&q)
	const want = "none, 3, nil; 3, none, nil; 1, none, nil; none, none, ErrArg; 3, 3, nil; 3, 9, nil; 3, 3, nil; none, none, ErrArg; 6, nil; 6, nil; 6, nil; 0/0, ErrArg; "
	if got := ask(q).told(); got != want || !unchanged() {
		t.Errorf("%s, want %s", got, want)
	}
	bound := api.Bound{Has: true, At: three}
	terms := []api.Term{{Coef: three}, {Var: 1, Coef: three}, {Coef: three}}
	p := api.Problem{Const: three, Vars: []api.Var{{Obj: three, Lo: bound, Hi: bound}, {Obj: three, Hi: bound}}, Rows: []api.Row{{Terms: terms[1:], Lo: bound}, {Terms: terms, Hi: bound}}}
	unchangedProblem := snapshot(&p)
	dualIs(t, p, "max : 3 | rp0 3 from 0 to none | rm1 -3 from 0 to none | vp0 3 from 0 to none | vm0 -3 from 0 to none | vm1 -3 from 0 to none | x0: 3@0 -6@1 1@2 -1@3 from 3 to 3 | x1: 3@0 -3@1 -1@4 from 3 to 3")
	if !unchangedProblem() {
		t.Error("the problem isn't as it was")
	}
}

// The list may be the basis of an outcome, and t a bound that was answered; both stay as they were.
func TestAskedByAnswers(t *testing.T) {
	s := standard(made)
	o := climb.Run(s)
	unchanged := snapshot(&o)
	lo, hi, err := span.Right(s, o.Basis, 0)
	if ends(lo, hi, err) != "0, 6" {
		t.Error(ends(lo, hi, err))
	}
	unchangedHi := snapshot(&hi)
	if got := value(span.At(s, o.Basis, 0, hi.At)); got != "-18" || !unchanged() || !unchangedHi() {
		t.Error(got)
	}
}

// R4: many may ask at the same time, of one standard and of one problem.
func TestAskedSideBySide(t *testing.T) {
	questions, problems := byHand(), problemsByHand()
	all := func() (s string) {
		for _, q := range questions {
			s += ask(q).told()
		}
		for _, p := range problems {
			s += told(span.Dual(p))
		}
		return s
	}
	want, got := all(), make(chan string)
	for range 8 {
		go func() { got <- all() }()
	}
	for range 8 {
		if a := <-got; a != want {
			t.Errorf("%s, want\n%s", a, want)
		}
	}
}

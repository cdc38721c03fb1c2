package branch_test

import (
	"cmp"
	"reflect"
	"runtime"
	"slices"
	"strings"
	"testing"
	"unsafe"

	"vertex/api"
	"vertex/branch"
)

// piece is where a list lies, spare room too.
type piece struct {
	at   uintptr
	size uintptr
}

// piecesOf finds all lists and texts in a value, however deep, numbers' limbs among them.
func piecesOf(v reflect.Value) (l []piece) {
	switch v.Kind() {
	case reflect.Struct:
		for i := range v.NumField() {
			l = append(l, piecesOf(v.Field(i))...)
		}
	case reflect.Slice:
		if v.Cap() > 0 {
			l = append(l, piece{v.Pointer(), uintptr(v.Cap()) * v.Type().Elem().Size()})
		}
		for i := range v.Len() {
			l = append(l, piecesOf(v.Index(i))...)
		}
	case reflect.String:
		if v.Len() > 0 {
			l = append(l, piece{uintptr(unsafe.Pointer(unsafe.StringData(v.String()))), uintptr(v.Len())})
		}
	}
	return l
}

// piecesOfAll finds all lists in some values. They are to be made ahead of it, all of them: what nobody holds any more may lend its place to what is made next.
func piecesOfAll(values []any) (l []piece) {
	for _, x := range values {
		l = append(l, piecesOf(reflect.ValueOf(x))...)
	}
	return l
}

// shares tells whether two lists overlap.
func shares(a, b piece) bool { return a.at < b.at+b.size && b.at < a.at+a.size }

// roomy copies a value, all its lists with spare room behind them, and its texts too.
func roomy(v reflect.Value) reflect.Value {
	c := reflect.New(v.Type()).Elem()
	switch v.Kind() {
	case reflect.Struct:
		for i := range v.NumField() {
			c.Field(i).Set(roomy(v.Field(i)))
		}
	case reflect.Slice:
		if v.IsNil() {
			return c
		}
		c = reflect.MakeSlice(v.Type(), v.Len(), v.Len()+3)
		for i := range v.Len() {
			c.Index(i).Set(roomy(v.Index(i)))
		}
	case reflect.String:
		c.SetString(strings.Clone(v.String()))
	default:
		c.Set(v)
	}
	return c
}

func copyOf[T any](a T) T { return roomy(reflect.ValueOf(a)).Interface().(T) }

// spoil writes over all lists of a value, spare room too.
func spoil(v reflect.Value) {
	switch v.Kind() {
	case reflect.Struct:
		for i := range v.NumField() {
			spoil(v.Field(i))
		}
	case reflect.Slice:
		v = v.Slice(0, v.Cap())
		for i := range v.Len() {
			spoil(v.Index(i))
		}
	case reflect.Uint64:
		v.SetUint(0xabcdef)
	case reflect.Int:
		v.SetInt(-7)
	case reflect.String:
		v.SetString("spoilt")
	case reflect.Bool:
		v.SetBool(!v.Bool())
	}
}

func spoilt[T any](a *T) { spoil(reflect.ValueOf(a).Elem()) }

// room shows a value with its lists' spare room as elements.
func room(v reflect.Value) reflect.Value {
	c := reflect.New(v.Type()).Elem()
	switch v.Kind() {
	case reflect.Struct:
		for i := range v.NumField() {
			c.Field(i).Set(room(v.Field(i)))
		}
	case reflect.Slice:
		if v.Cap() == 0 {
			return c
		}
		c = reflect.MakeSlice(v.Type(), v.Cap(), v.Cap())
		for i := range v.Cap() {
			c.Index(i).Set(room(v.Slice(0, v.Cap()).Index(i)))
		}
	default:
		c.Set(v)
	}
	return c
}

// snapshot holds a value, its lists' spare room too, and tells whether it is as it was.
func snapshot[T any](a *T) (unchanged func() bool) {
	shown := func() any { return room(reflect.ValueOf(a).Elem()).Interface() }
	before := shown()
	return func() bool { return reflect.DeepEqual(shown(), before) }
}

// byHand are problems and searches of each verdict, in either sense, in no one form, right ones and wrong ones, with room behind their lists; most of the searches are Run's.
func byHand() (problems []api.Problem, searches []api.Search) {
	r := chances(7)
	add := func(p api.Problem, s api.Search) {
		p.Name = "objective"
		for j := range p.Vars {
			p.Vars[j].Name = "x"
		}
		problems, searches = append(problems, copyOf(p)), append(searches, copyOf(s))
	}
	for range 40 {
		add(r.anySearch(r.size()))
	}
	for _, text := range []string{
		bag, thirds, upward, freely, "max 0 x + y st 2 x = 1 bounds x <= 1 int x",
		// Numbers of two limbs: of points, values, rays, and of where a variable is split.
		"max 36893488147419103235 x + y st 2 x + 2 y <= 73786976294838206467 bounds x <= 36893488147419103233 y <= 36893488147419103233 int x y",
		"min x st bounds 36893488147419103233/2 <= x <= 36893488147419103239/2 int x",
		"max 0 x + y st 36893488147419103233 z - y = 0 bounds 73786976294838206467/2 <= x <= 36893488147419103239 int x",
	} {
		p := r.otherForm(problem(text))
		s, err := secondRun(p, 100)
		if err != nil {
			panic(err)
		}
		add(p, s)
		add(p, r.otherTelling(s))
	}
	return problems, searches
}

// answered is what Run answers, of a problem by hand; false: it is open.
func answered(p api.Problem, most int) (api.Search, bool) {
	s, err := branch.Run(p, most)
	return s, err == nil
}

// The pairs of these tests are of each verdict, in either sense, accepted and not; searches are stopped, too.
func TestByHand(t *testing.T) {
	count := map[string]int{}
	problems, searches := byHand()
	for k, p := range problems {
		count[senseOf(p)+" "+verdictOf(searches[k].Verdict)+map[bool]string{true: " nil"}[branch.Check(p, searches[k]) == nil]]++
		for _, most := range []int{2, 100} {
			if s, ok := answered(p, most); ok {
				count["run "+verdictOf(s.Verdict)]++
			}
		}
	}
	enough(t, 1, count, "min optimal nil", "max optimal nil", "min infeasible nil", "max infeasible nil", "max unbounded nil", "min optimal", "max optimal", "max infeasible", "run optimal", "run infeasible", "run unbounded", "run stopped")
}

// R3, P18.9: what Run answers shares no memory with the problem, nor with another answer; no two lists of it do: the best point is told in the tree and beside it.
func TestAnswersShareNothing(t *testing.T) {
	problems, searches := byHand()
	var values []any
	for k, p := range problems {
		values = append(values, p, searches[k])
		for _, most := range []int{100, 100, 2, 4} {
			if s, ok := answered(p, most); ok {
				values = append(values, s)
			}
		}
	}
	pieces := piecesOfAll(values)
	slices.SortFunc(pieces, func(a, b piece) int { return cmp.Compare(a.at, b.at) })
	for i := 1; i < len(pieces); i++ {
		if shares(pieces[i-1], pieces[i]) {
			t.Fatalf("an answer shares memory: %v, %v", pieces[i-1], pieces[i])
		}
	}
	if len(pieces) < 1000 {
		t.Errorf("only %d pieces", len(pieces))
	}
	// What is told by values alone must be held till it is compared.
	runtime.KeepAlive(values)
}

// R3, P18.9: the problem and the search handed in are as they were, spare room too.
func TestNothingHandedInIsChanged(t *testing.T) {
	problems, searches := byHand()
	for k, p := range problems {
		s := searches[k]
		same := snapshot(&p)
		for _, most := range []int{0, 1, 3, 100} {
			if branch.Run(p, most); !same() {
				t.Errorf("pair %d: the problem isn't as it was behind Run", k)
			}
		}
		for verdict := range 5 {
			s.Verdict = verdict
			sameSearch := snapshot(&s)
			if branch.Check(p, s); !same() || !sameSearch() {
				t.Errorf("pair %d, verdict %d: not all is as it was behind Check: the problem: %v, the search: %v", k, verdict, same(), sameSearch())
			}
		}
	}
}

// R3, R4, P18.9: what was handed in may be written over, and so may what came out: it is its owner's, and the next answers are the same.
func TestNothingIsKept(t *testing.T) {
	problems, searches := byHand()
	for k, first := range problems {
		wantRun, want := secondTold(first, 100), secondCheck(first, searches[k])
		for range 2 {
			p, s := copyOf(first), copyOf(searches[k])
			checks(t, p, s, want)
			got, err := branch.Run(p, 100)
			spoilt(&p)
			spoilt(&s)
			if err == nil && told(got) != wantRun || err != nil && errorOf(err) != wantRun {
				t.Errorf("pair %d: %s, %v, want %s", k, told(got), err, wantRun)
			}
			spoilt(&got)
		}
	}
}

// R3: what is handed in may share memory in itself: a search's lists may be one list, a problem's numbers one number.
func TestListsThatShareMemory(t *testing.T) {
	three := odd("3")
	l := []api.Rat{three, three, three}
	bound := api.Bound{Has: true, At: three}
	terms := []api.Term{{Coef: three}, {Var: 1, Coef: three}, {Coef: three}}
	p := api.Problem{
		Max:  true,
		Vars: []api.Var{{Obj: three, Lo: bound, Hi: bound, Whole: true}, {Obj: three, Lo: api.Bound{Has: true}, Hi: bound, Whole: true}},
		Rows: []api.Row{{Terms: terms[:1], Lo: bound}, {Terms: terms, Lo: bound}},
	}
	same := snapshot(&p)
	runs(t, p, 9, "optimal, value 18, X 3 3, 1 nodes | optimal, value 18, X 3 3, Y 0 0")
	c := api.Cert{Verdict: api.Optimal, Value: three, X: l[:2], Y: l[1:], Ray: l}
	n := api.Node{Split: true, Var: 1, At: three.Num, Left: 1, Right: 2, Cert: c}
	s := api.Search{Verdict: api.Optimal, Value: three, X: l[1:], Ray: l, Tree: []api.Node{n, {Cert: c}, {Cert: c}}}
	sameSearch := snapshot(&s)
	checks(t, p, s, api.ErrValue)
	if !same() || !sameSearch() {
		t.Error("not all is as it was")
	}
}

// R4: many may ask at the same time, of one problem and one search.
func TestAskedSideBySide(t *testing.T) {
	problems, searches := byHand()
	all := func() string {
		var s strings.Builder
		for k, p := range problems {
			a, err := branch.Run(p, 20)
			s.WriteString(told(a) + errorOf(err) + errorOf(branch.Check(p, searches[k])) + "\n")
		}
		return s.String()
	}
	want, got := all(), make(chan string)
	for range 8 {
		go func() { got <- all() }()
	}
	for range 8 {
		if a := <-got; a != want {
			t.Errorf("%s, want %s", a, want)
		}
	}
}

package parse_test

import (
	"math/rand"
	"slices"
	"strings"
	"testing"

	"vertex/api"
	"vertex/lex"
	"vertex/parse"
)

// composed goes through many texts with what each is to be read as.
func composed(n int) func(yield func(s string, want api.Text) bool) {
	return func(yield func(s string, want api.Text) bool) {
		r, kind := rand.New(rand.NewSource(6)), map[string]int{}
		for range n {
			if s, want := compose(r, kind); !yield(s, want) {
				return
			}
		}
		for _, form := range []string{"claim nd", "claim un", "claim uu", "claim ai", "claim uad", "claim uai", "limit xf", "limit xv", "limit vx", "limit vxv"} {
			if kind[form] < n/10 {
				panic("too few of the form " + form)
			}
		}
	}
}

// P6.2 to P6.8: texts of all forms, whatever gaps stand between their tokens, are read as what they were told from, places and all.
func TestTextsReadAsTold(t *testing.T) {
	for s, want := range composed(10000) {
		got, err := parse.Parse(s)
		if err != nil || toldAt(got) != toldAt(want) {
			t.Fatalf("Parse(%q):\n%s, %v, want\n%s", s, toldAt(got), err, toldAt(want))
		}
		for _, a := range numbers(got) {
			if !inForm(a) {
				t.Fatalf("Parse(%q): %v isn't in the one form", s, a)
			}
		}
	}
}

// holds asks whether a text is read, or refused with the fault that it is to be refused with; and gives that fault.
func holds(t *testing.T, s string) *api.Fault {
	t.Helper()
	want := judge(s)
	got, err := parse.Parse(s)
	if want == nil {
		if err != nil {
			t.Fatalf("Parse(%q): %v, want no fault", s, err)
		}
		return nil
	}
	if f, ok := err.(*api.Fault); !ok || *f != *want || !isEmpty(got) {
		t.Fatalf("Parse(%q): %s, %v, want %v", s, told(got), err, want)
	}
	return want
}

// pieces are all kinds of tokens, a name with a colon behind it among them.
var pieces = []string{"min", "max", "st", "bounds", "int", "bin", "free", "inf", "end", "x", "c:", "2", "+", "-", ":", "<", "=", ">"}

// grow goes through all texts that begin so and go on by so many pieces at most, as long as they have no fault but that they end too early.
func grow(begin string, more int, fault func(s string) *api.Fault) {
	for _, p := range pieces {
		s := begin + " " + p
		end := endOf(s)
		if f := fault(s); more > 1 && f != nil && f.Line == end.Line && f.Col == end.Col {
			grow(s, more-1, fault)
		}
	}
}

// P6.1, P6.3, P6.5: the first token that can't stand, in all texts of some pieces, behind beginnings of all kinds; and P6.8: what is read is read again, told in another way.
func TestEveryTokenEverywhere(t *testing.T) {
	read, faults := 0, map[error]int{}
	for _, begin := range []struct {
		text string
		more int
	}{{"", 6}, {"max x st", 5}, {"min st 2 <", 5}, {"min st 2 > - x", 5}, {"min st c: x = 2", 4}, {"min st 1 <= x <= ", 5}, {"min st 1 <= 2", 4}, {"min st bounds", 5}, {"min st bounds - inf <", 5}, {"min st bounds 2 > x", 4}, {"min st bounds x <", 4}, {"min st int x", 4}, {"min st free", 4}, {"min st bin x end", 2}} {
		grow(begin.text, begin.more, func(s string) *api.Fault {
			if f := holds(t, s); f != nil {
				faults[f.Err]++
				return f
			}
			read++
			text, _ := parse.Parse(s)
			again, err := parse.Parse(retold(text))
			if err != nil || told(again) != told(text) {
				t.Fatalf("%q is %s, told again %s, %v", s, told(text), told(again), err)
			}
			return nil
		})
	}
	if read < 4000 || faults[api.ErrDue] < 100000 || faults[api.ErrSides] < 1000 || faults[api.ErrSigns] < 500 {
		t.Errorf("only %d texts are read; faults: %v", read, faults)
	}
}

// retold tells a Text in one way: all conditions and limits with as many sides as they can have.
func retold(t api.Text) string {
	var w strings.Builder
	put := func(l ...string) { w.WriteString(strings.Join(l, " ") + "\n") }
	number := func(a api.Rat) string { return strings.Replace("+ "+numberOf(a), "+ -", "- ", 1) }
	value := func(b api.Bound, none string) string {
		if b.Has {
			return number(b.At)
		}
		return none
	}
	label := func(name string) string {
		if name == "" {
			return ""
		}
		return name + ":"
	}
	items := func(l []api.Item) (s string) {
		for _, x := range l {
			s += " " + number(x.Coef) + " " + x.Name
		}
		return s
	}
	put(map[bool]string{false: "min", true: "max"}[t.Max], label(t.Name), items(t.Items), "st")
	for _, c := range t.Claims {
		switch {
		case c.Lo.Has:
			put(label(c.Name), number(c.Lo.At), "<=", items(c.Items), "<=", value(c.Hi, "inf"))
		case c.Hi.Has:
			put(label(c.Name), number(c.Hi.At), ">=", items(c.Items), ">= - inf")
		default:
			put(label(c.Name), items(c.Items), "<= inf")
		}
	}
	put("bounds")
	for _, l := range t.Limits {
		switch {
		case l.SetLo && l.SetHi:
			put(value(l.Lo, "- inf"), "<=", l.Name, "<=", value(l.Hi, "inf"))
		case l.SetLo:
			put(l.Name, ">=", value(l.Lo, "- inf"))
		case l.SetHi:
			put(l.Name, "<=", value(l.Hi, "inf"))
		}
	}
	for _, x := range t.Wholes {
		put("int", x.Name)
	}
	for _, x := range t.Twos {
		put("bin", x.Name)
	}
	put("end")
	return w.String()
}

// P6.8: so are the texts of all forms.
func TestTextsToldAgain(t *testing.T) {
	for s, want := range composed(3000) {
		if got, err := parse.Parse(retold(want)); err != nil || told(got) != told(want) {
			t.Fatalf("%q, told again %q: %s, %v, want %s", s, retold(want), told(got), err, told(want))
		}
	}
}

// begins gives the byte of a text at which a token begins.
func begins(s string, k api.Token) int {
	lines := strings.SplitAfter(s, "\n")
	return len(strings.Join(lines[:k.Line-1], "")) + k.Col - 1
}

// P6.8: a text that is read, cut off ahead of a token that is no TColon, is ErrDue, at its end or ahead of it.
func TestTextsCutOff(t *testing.T) {
	cuts := 0
	for s := range composed(500) {
		tokens, err := lex.Scan(s)
		if err != nil {
			t.Fatal(err)
		}
		for _, k := range tokens {
			cut := s[:begins(s, k)]
			if k.Kind == api.TColon {
				holds(t, cut)
				continue
			}
			cuts++
			end := endOf(cut)
			f := holds(t, cut)
			if f == nil || f.Err != api.ErrDue || f.Line > end.Line || f.Line == end.Line && f.Col > end.Col {
				t.Fatalf("%q: %v", cut, f)
			}
		}
	}
	if cuts < 20000 {
		t.Errorf("only %d cuts", cuts)
	}
}

// P6.1: texts of all forms in which a token is left out, put in, or another one.
func TestTextsWithATokenChanged(t *testing.T) {
	r := rand.New(rand.NewSource(66))
	read, faults := 0, map[error]int{}
	for s := range composed(6000) {
		tokens, err := lex.Scan(s)
		if err != nil {
			t.Fatal(err)
		}
		var l []string
		for _, k := range tokens {
			l = append(l, k.Text)
		}
		for range 1 + r.Intn(2) {
			i, n := r.Intn(len(l)), r.Intn(2)
			l = slices.Replace(l, i, i+n, slices.Repeat([]string{pieces[r.Intn(len(pieces))]}, r.Intn(2))...)
			if len(l) == 0 {
				break
			}
		}
		if f := holds(t, strings.Join(l, gaps[r.Intn(len(gaps))])); f != nil {
			faults[f.Err]++
		} else {
			read++
		}
	}
	if read < 500 || faults[api.ErrDue] < 1000 || faults[api.ErrSides] < 50 || faults[api.ErrSigns] < 50 {
		t.Errorf("only %d texts are read; faults: %v", read, faults)
	}
}

// P6.1: a fault of lex.Scan comes ahead of all others, wherever it stands.
func TestFaultsOfTokensComeFirst(t *testing.T) {
	r := rand.New(rand.NewSource(666))
	for s := range composed(300) {
		tokens, _ := lex.Scan(s)
		at := begins(s, tokens[r.Intn(len(tokens))])
		for _, wrong := range []string{"*", "1/0", " . ", "1e10000", "/"} {
			// What is out of place ahead of it doesn't count.
			text := ": " + s[:at] + " < " + wrong + " " + s[at:]
			_, want := lex.Scan(text)
			got, err := parse.Parse(text)
			f, ok := err.(*api.Fault)
			if w, is := want.(*api.Fault); !is || !ok || *f != *w || !isEmpty(got) {
				t.Fatalf("Parse(%q): %v, want %v", text, err, want)
			}
		}
	}
}

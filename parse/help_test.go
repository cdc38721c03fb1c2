package parse_test

import (
	"math/big"
	"slices"
	"strconv"
	"strings"
	"testing"

	"vertex/api"
	"vertex/parse"
)

// gaps are gaps of all kinds that a text can go on behind.
var gaps = []string{" ", "\t", "\n", "\r", "\r\n", "  \t ", "\\\n", "\\ so : it <= is\n", " \\\r\n", "\n\n\\ end\n\t\\ two\r\n  ", "\\\\\n", "\\\x00\xff\n\r"}

func bigOf(a api.Nat) *big.Int {
	n := new(big.Int)
	for _, limb := range slices.Backward(a) {
		n.Lsh(n, 64).Or(n, new(big.Int).SetUint64(limb))
	}
	return n
}

// numberOf tells a number by its very fields, so that another form is another text.
func numberOf(a api.Rat) string {
	s := bigOf(a.Num.Mag).String()
	if a.Num.Neg {
		s = "-" + s
	}
	if slices.Equal(a.Den, api.Nat{1}) {
		return s
	}
	return s + "/" + bigOf(a.Den).String()
}

// inForm tells whether a number is in the one form.
func inForm(a api.Rat) bool {
	num, den := bigOf(a.Num.Mag), bigOf(a.Den)
	switch {
	case len(num.Bits()) != len(a.Num.Mag) || len(den.Bits()) != len(a.Den):
		return false
	case num.Sign() == 0:
		return !a.Num.Neg && den.IsUint64() && den.Uint64() == 1
	}
	return den.Sign() > 0 && new(big.Int).GCD(nil, nil, num, den).IsUint64() && new(big.Int).GCD(nil, nil, num, den).Uint64() == 1
}

// teller writes an answer out, all of it; with its places, if they are asked for.
type teller struct {
	strings.Builder
	places bool
}

func (w *teller) at(line, col int) {
	if w.places {
		w.WriteString("@" + strconv.Itoa(line) + ":" + strconv.Itoa(col))
	}
}

func (w *teller) items(l []api.Item) {
	for _, x := range l {
		w.WriteString(" " + numberOf(x.Coef))
		if x.Name != "" {
			w.WriteString("*" + x.Name)
		}
		w.at(x.Line, x.Col)
	}
}

// bound tells a bound; what stands in one that isn't there has to be nought.
func (w *teller) bound(b api.Bound) {
	switch {
	case b.Has:
		w.WriteString(" " + numberOf(b.At))
	case bigOf(b.At.Num.Mag).Sign() != 0 || b.At.Num.Neg || len(b.At.Den) > 1:
		w.WriteString(" none, but " + numberOf(b.At))
	default:
		w.WriteString(" none")
	}
}

func (w *teller) limit(l api.Limit) {
	w.WriteString(" | limit " + l.Name)
	w.at(l.Line, l.Col)
	for _, x := range []struct {
		text string
		set  bool
		to   api.Bound
	}{{" lo", l.SetLo, l.Lo}, {" hi", l.SetHi, l.Hi}} {
		if x.set || x.to.Has {
			w.WriteString(x.text)
			w.bound(x.to)
		}
		if !x.set && x.to.Has {
			w.WriteString(" but not set")
		}
	}
}

func (w *teller) mentions(kind string, l []api.Mention) {
	for _, x := range l {
		w.WriteString(" | " + kind + " " + x.Name)
		w.at(x.Line, x.Col)
	}
}

func (w *teller) all(t api.Text) string {
	w.WriteString("min")
	if t.Max {
		w.Reset()
		w.WriteString("max")
	}
	w.WriteString(" " + t.Name + ":")
	w.items(t.Items)
	for _, c := range t.Claims {
		w.WriteString(" | claim " + c.Name)
		w.at(c.Line, c.Col)
		w.WriteString(":")
		w.items(c.Items)
		w.WriteString(" from")
		w.bound(c.Lo)
		w.WriteString(" to")
		w.bound(c.Hi)
	}
	for _, l := range t.Limits {
		w.limit(l)
	}
	w.mentions("whole", t.Wholes)
	w.mentions("two", t.Twos)
	return w.String()
}

// told is an answer without its places, toldAt with them.
func told(t api.Text) string { return (&teller{}).all(t) }

func toldAt(t api.Text) string { return (&teller{places: true}).all(t) }

// numbers are all numbers of an answer that have a meaning in it.
func numbers(t api.Text) (l []api.Rat) {
	items := func(items []api.Item) {
		for _, x := range items {
			l = append(l, x.Coef)
		}
	}
	bounds := func(bounds ...api.Bound) {
		for _, b := range bounds {
			if b.Has {
				l = append(l, b.At)
			}
		}
	}
	items(t.Items)
	for _, c := range t.Claims {
		items(c.Items)
		bounds(c.Lo, c.Hi)
	}
	for _, x := range t.Limits {
		bounds(x.Lo, x.Hi)
	}
	return l
}

// says asks for what a text says, wherever it stands.
func says(t *testing.T, s, want string) {
	t.Helper()
	if got, err := parse.Parse(s); err != nil || told(got) != want {
		t.Errorf("Parse(%q): %s, %v, want %s", s, told(got), err, want)
	}
}

// saysAt asks for what a text says, with its places.
func saysAt(t *testing.T, s, want string) {
	t.Helper()
	if got, err := parse.Parse(s); err != nil || toldAt(got) != want {
		t.Errorf("Parse(%q): %s, %v, want %s", s, toldAt(got), err, want)
	}
}

// isEmpty tells whether nothing stands in an answer, as it has to be beside an error.
func isEmpty(t api.Text) bool {
	return !t.Max && t.Name == "" && len(t.Items)+len(t.Claims)+len(t.Limits)+len(t.Wholes)+len(t.Twos) == 0
}

// fails asks for a fault, itself and not wrapped, and for nothing beside it.
func fails(t *testing.T, s string, line, col int, want error) {
	t.Helper()
	got, err := parse.Parse(s)
	if f, ok := err.(*api.Fault); !ok || f.Err != want || f.Line != line || f.Col != col {
		t.Errorf("Parse(%q): %v, want %d:%d %v", s, err, line, col, want)
	}
	if !isEmpty(got) {
		t.Errorf("Parse(%q): %s beside a fault", s, told(got))
	}
}

// failsAt asks for a fault at the mark '^' of a text, which is cut out ahead of the call.
func failsAt(t *testing.T, marked string, want error) {
	t.Helper()
	ahead, behind, ok := strings.Cut(marked, "^")
	if !ok || strings.Contains(behind, "^") {
		t.Fatalf("%q has no mark, or two", marked)
	}
	fails(t, ahead+behind, 1+strings.Count(ahead, "\n"), len(ahead)-strings.LastIndex(ahead, "\n"), want)
}

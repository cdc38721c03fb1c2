package branch_test

import (
	"math/big"
	"slices"
	"strconv"
	"strings"
	"testing"

	"vertex/api"
	"vertex/branch"
	"vertex/model"
)

// The tests hold the package against math/big; numbers go there and back limb by limb.
func bigOf(a api.Nat) *big.Int {
	n := new(big.Int)
	for _, limb := range slices.Backward(a) {
		n.Lsh(n, 64).Or(n, new(big.Int).SetUint64(limb))
	}
	return n
}

func limbsOf(n *big.Int) (a api.Nat) {
	for _, w := range new(big.Int).Abs(n).Bits() {
		a = append(a, uint64(w))
	}
	return a
}

func toBigInt(a api.Int) *big.Int {
	n := bigOf(a.Mag)
	if a.Neg {
		n.Neg(n)
	}
	return n
}

// fromBigInt tells a whole number in its one form.
func fromBigInt(n *big.Int) api.Int { return api.Int{Neg: n.Sign() < 0, Mag: limbsOf(n)} }

func toBig(a api.Rat) *big.Rat {
	den := bigOf(a.Den)
	if den.Sign() == 0 {
		return new(big.Rat)
	}
	return new(big.Rat).SetFrac(toBigInt(a.Num), den)
}

// fromBig tells a number in its one form.
func fromBig(n *big.Rat) api.Rat {
	return api.Rat{Num: fromBigInt(n.Num()), Den: limbsOf(n.Denom())}
}

func plus(a, b *big.Rat) *big.Rat { return new(big.Rat).Add(a, b) }

func minus(a, b *big.Rat) *big.Rat { return new(big.Rat).Sub(a, b) }

func times(a, b *big.Rat) *big.Rat { return new(big.Rat).Mul(a, b) }

func by(a, b *big.Rat) *big.Rat { return new(big.Rat).Quo(a, b) }

func turn(a *big.Rat) *big.Rat { return new(big.Rat).Neg(a) }

// floorOf is the greatest whole number that isn't above it.
func floorOf(a *big.Rat) *big.Int {
	// Den is above nought: then Euclid's quotient is the one downwards.
	return new(big.Int).Div(a.Num(), a.Denom())
}

// num reads a number of a test's own.
func num(s string) api.Rat {
	n, ok := new(big.Rat).SetString(s)
	if !ok {
		panic("the test's own number is none: " + s)
	}
	return fromBig(n)
}

// integer reads a whole number of a test's own.
func integer(s string) api.Int { return num(s).Num }

// has is a bound that is there.
func has(s string) api.Bound { return api.Bound{Has: true, At: num(s)} }

// odd tells a number in another form: with a common divisor, and with limbs of nought at the end.
func odd(s string) api.Rat {
	a := num(s)
	six := func(a api.Nat) api.Nat { return append(limbsOf(new(big.Int).Mul(bigOf(a), big.NewInt(6))), 0, 0) }
	a.Num.Mag, a.Den = six(a.Num.Mag), six(a.Den)
	return a
}

// noughts are the ways in which nought is told.
func noughts() []api.Rat {
	return []api.Rat{{}, {Den: api.Nat{1}}, {Num: api.Int{Neg: true}, Den: api.Nat{3}}, {Num: api.Int{Mag: api.Nat{5}}}, {Num: api.Int{Neg: true, Mag: api.Nat{5}}, Den: api.Nat{0, 0}}, {Num: api.Int{Mag: api.Nat{0, 0}}, Den: api.Nat{7}}}
}

// list reads numbers that stand apart by blanks, odds tells each of them in another form.
func list(s string) (l []api.Rat) {
	for _, x := range strings.Fields(s) {
		l = append(l, num(x))
	}
	return l
}

func odds(s string) (l []api.Rat) {
	for _, x := range strings.Fields(s) {
		l = append(l, odd(x))
	}
	return l
}

// wholeOf tells a whole number by its very fields, so that another form is another text.
func wholeOf(a api.Int) string {
	s := bigOf(a.Mag).String()
	if a.Neg {
		s = "-" + s
	}
	if n := len(a.Mag); n > 0 && a.Mag[n-1] == 0 {
		s += " with noughts"
	}
	return s
}

// numberOf tells a number by its very fields.
func numberOf(a api.Rat) string {
	s := wholeOf(a.Num)
	if slices.Equal(a.Den, api.Nat{1}) {
		return s
	}
	return s + "/" + wholeOf(api.Int{Mag: a.Den})
}

func numbersOf(l []api.Rat) string {
	var s []string
	for _, x := range l {
		s = append(s, numberOf(x))
	}
	return strings.Join(s, " ")
}

// verdictOf tells a verdict by its name, and one that is none by its number.
func verdictOf(verdict int) string {
	switch verdict {
	case api.Optimal:
		return "optimal"
	case api.Infeasible:
		return "infeasible"
	case api.Unbounded:
		return "unbounded"
	case api.Stopped:
		return "stopped"
	}
	return strconv.Itoa(verdict)
}

// errorOf tells an error by its name. One that is wrapped is another one.
func errorOf(err error) string {
	switch err {
	case nil:
		return "nil"
	case api.ErrArg:
		return "ErrArg"
	case api.ErrOpen:
		return "ErrOpen"
	case api.ErrShape:
		return "ErrShape"
	case api.ErrPoint:
		return "ErrPoint"
	case api.ErrWhole:
		return "ErrWhole"
	case api.ErrValue:
		return "ErrValue"
	case api.ErrTree:
		return "ErrTree"
	case api.ErrVerdict:
		return "ErrVerdict"
	case api.ErrBound:
		return "ErrBound"
	case api.ErrRay:
		return "ErrRay"
	}
	return "another error: " + err.Error()
}

// isNought tells whether a number that has no meaning is nought, told in one of the two ways.
func isNought(a api.Rat) bool {
	return !a.Num.Neg && len(a.Num.Mag) == 0 && (len(a.Den) == 0 || slices.Equal(a.Den, api.Nat{1}))
}

// joined tells parts one behind the other, those without a text left out.
func joined(parts ...string) string {
	return strings.Join(slices.DeleteFunc(parts, func(s string) bool { return s == "" }), ", ")
}

// named tells numbers behind a name, and nothing if there are none.
func named(name string, l []api.Rat) string {
	if len(l) == 0 {
		return ""
	}
	return name + " " + numbersOf(l)
}

// valued tells a value, and nothing if it is nought.
func valued(a api.Rat) string {
	if isNought(a) {
		return ""
	}
	return "value " + numberOf(a)
}

// certOf writes a certificate out, but for what isn't there.
func certOf(c api.Cert) string {
	if c.Verdict == 0 {
		return joined(valued(c.Value), named("X", c.X), named("Y", c.Y), named("Ray", c.Ray))
	}
	return joined(verdictOf(c.Verdict), valued(c.Value), named("X", c.X), named("Y", c.Y), named("Ray", c.Ray))
}

// nodeOf writes a node out, all of it: a split one as `Var at At: Left, Right`.
func nodeOf(n api.Node) string {
	at, behind := "", ""
	if n.Split || n.At.Neg || len(n.At.Mag) > 0 || n.Var != 0 || n.Left != 0 || n.Right != 0 {
		at = strconv.Itoa(n.Var) + " at " + wholeOf(n.At) + ": " + strconv.Itoa(n.Left) + " " + strconv.Itoa(n.Right)
	}
	if !n.Split && at != "" {
		behind = "but no split"
	}
	return joined(at, behind, certOf(n.Cert))
}

// headOf writes a search out without its tree.
func headOf(s api.Search) string {
	return joined(verdictOf(s.Verdict), valued(s.Value), named("X", s.X), named("Ray", s.Ray), strconv.Itoa(s.Nodes)+" nodes")
}

// told writes a search out, all of it.
func told(s api.Search) string {
	l := []string{headOf(s)}
	for _, n := range s.Tree {
		l = append(l, nodeOf(n))
	}
	return strings.Join(l, " | ")
}

func boundOf(b api.Bound) string {
	if b.Has {
		return toBig(b.At).RatString()
	}
	return "none"
}

// senseOf tells a problem's sense.
func senseOf(p api.Problem) string { return map[bool]string{false: "min", true: "max"}[p.Max] }

// shown writes a problem out: a variable with its Obj and its bounds, a row with its terms, each as its coefficient and its variable's place.
func shown(p api.Problem) string {
	var w strings.Builder
	w.WriteString(senseOf(p) + " " + toBig(p.Const).RatString())
	for _, v := range p.Vars {
		w.WriteString(" | " + toBig(v.Obj).RatString() + " from " + boundOf(v.Lo) + " to " + boundOf(v.Hi) + map[bool]string{true: " whole"}[v.Whole])
	}
	for _, row := range p.Rows {
		w.WriteString(" |")
		for _, term := range row.Terms {
			w.WriteString(" " + toBig(term.Coef).RatString() + "@" + strconv.Itoa(term.Var))
		}
		w.WriteString(": from " + boundOf(row.Lo) + " to " + boundOf(row.Hi))
	}
	return w.String()
}

// problem reads a problem of a test's own, its text without the end.
func problem(s string) api.Problem {
	p, err := model.Read(s + " end")
	if err != nil {
		panic("the test's own problem is none: " + s + ": " + err.Error())
	}
	return p
}

// isZero tells whether a search is the zero value, as it has to be beside an error.
func isZero(s api.Search) bool {
	return s.Verdict == 0 && s.Value.Den == nil && s.Value.Num.Mag == nil && !s.Value.Num.Neg && len(s.X)+len(s.Ray)+len(s.Tree)+s.Nodes == 0
}

// searched gives what Run answers of a problem that is not open.
func searched(t *testing.T, p api.Problem, most int) api.Search {
	t.Helper()
	s, err := branch.Run(p, most)
	if err != nil {
		t.Fatalf("Run(%s, %d): %v", shown(p), most, err)
	}
	return s
}

// runs asks what Run answers.
func runs(t *testing.T, p api.Problem, most int, want string) {
	t.Helper()
	if got := told(searched(t, p, most)); got != want {
		t.Errorf("Run(%s, %d):\n%s, want\n%s", shown(p), most, got, want)
	}
}

// refuses asks for an error of Run.
func refuses(t *testing.T, p api.Problem, most int, want error) {
	t.Helper()
	if s, err := branch.Run(p, most); err != want || !isZero(s) {
		t.Errorf("Run(%s, %d): %s, %s, want %s", shown(p), most, told(s), errorOf(err), errorOf(want))
	}
}

// checks asks what Check answers.
func checks(t *testing.T, p api.Problem, s api.Search, want error) {
	t.Helper()
	if got := branch.Check(p, s); got != want {
		t.Errorf("Check of %s\n%s:\n%s, want %s", shown(p), told(s), errorOf(got), errorOf(want))
	}
}

// enough asks whether each thing was there at least so often.
func enough(t *testing.T, least int, count map[string]int, names ...string) {
	t.Helper()
	for _, name := range names {
		if count[name] < least {
			t.Errorf("%s: only %d of %v", name, count[name], count)
		}
	}
}

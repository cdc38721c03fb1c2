package solve_test

import (
	"math/big"
	"slices"
	"strconv"
	"strings"
	"testing"

	"vertex/api"
	"vertex/model"
	"vertex/solve"
)

// The tests hold the package against math/big; numbers go there and back limb by limb.
func bigOf(a api.Nat) *big.Int {
	n := new(big.Int)
	for _, limb := range slices.Backward(a) {
		n.Lsh(n, 64).Or(n, new(big.Int).SetUint64(limb))
	}
	return n
}

func limbsOf(n *big.Int) (a api.Nat) {
	for _, w := range new(big.Int).Abs(n).Bits() {
		a = append(a, uint64(w))
	}
	return a
}

func toBig(a api.Rat) *big.Rat {
	num, den := bigOf(a.Num.Mag), bigOf(a.Den)
	if den.Sign() == 0 {
		return new(big.Rat)
	}
	if a.Num.Neg {
		num.Neg(num)
	}
	return new(big.Rat).SetFrac(num, den)
}

// fromBig tells a number in its one form.
func fromBig(n *big.Rat) api.Rat {
	return api.Rat{Num: api.Int{Neg: n.Sign() < 0, Mag: limbsOf(n.Num())}, Den: limbsOf(n.Denom())}
}

// num reads a number of a test's own.
func num(s string) api.Rat {
	n, ok := new(big.Rat).SetString(s)
	if !ok {
		panic("the test's own number is none: " + s)
	}
	return fromBig(n)
}

// odd tells a number in another form: with a common divisor, and with limbs of nought at the end.
func odd(s string) api.Rat {
	a := num(s)
	six := func(a api.Nat) api.Nat { return append(limbsOf(new(big.Int).Mul(bigOf(a), big.NewInt(6))), 0, 0) }
	a.Num.Mag, a.Den = six(a.Num.Mag), six(a.Den)
	return a
}

// has is a bound that is there.
func has(s string) api.Bound { return api.Bound{Has: true, At: num(s)} }

// numberOf tells a number by its very fields, so that another form is another text.
func numberOf(a api.Rat) string {
	s := bigOf(a.Num.Mag).String()
	if a.Num.Neg {
		s = "-" + s
	}
	for _, l := range []api.Nat{a.Num.Mag, a.Den} {
		if n := len(l); n > 0 && l[n-1] == 0 {
			s += " with noughts"
		}
	}
	if slices.Equal(a.Den, api.Nat{1}) {
		return s
	}
	return s + "/" + bigOf(a.Den).String()
}

// isNought tells whether a number that has no meaning is nought, told in one of the two ways.
func isNought(a api.Rat) bool {
	return !a.Num.Neg && len(a.Num.Mag) == 0 && (len(a.Den) == 0 || slices.Equal(a.Den, api.Nat{1}))
}

// listOf tells numbers behind a name, and nothing if there are none.
func listOf(name string, l []api.Rat) string {
	if len(l) == 0 {
		return ""
	}
	s := ", " + name
	for _, x := range l {
		s += " " + numberOf(x)
	}
	return s
}

// verdictOf tells a verdict by its name, and one that is none by its number.
func verdictOf(verdict int) string {
	switch verdict {
	case api.Optimal:
		return "optimal"
	case api.Infeasible:
		return "infeasible"
	case api.Unbounded:
		return "unbounded"
	case api.Stopped:
		return "stopped"
	}
	return strconv.Itoa(verdict)
}

// told writes a certificate out, all of it; a Value has to be told in its one form, but where it has no meaning.
func told(c api.Cert) string {
	s := verdictOf(c.Verdict)
	if c.Verdict == api.Optimal || !isNought(c.Value) {
		s += ", value " + numberOf(c.Value)
	}
	return s + listOf("X", c.X) + listOf("Y", c.Y) + listOf("Ray", c.Ray)
}

// isZero tells whether a certificate is the zero value, as it has to be beside an error.
func isZero(c api.Cert) bool {
	return c.Verdict == 0 && c.Value.Den == nil && c.Value.Num.Mag == nil && !c.Value.Num.Neg && len(c.X)+len(c.Y)+len(c.Ray) == 0
}

// lines puts a line feed behind each line.
func lines(l ...string) string {
	if len(l) == 0 {
		return ""
	}
	return strings.Join(l, "\n") + "\n"
}

// barred makes a text of lines that are parted by bars.
func barred(s string) string { return strings.ReplaceAll(s, "|", "\n") }

// outcome is what a call answers: what there is to print, and the code.
type outcome struct {
	text string
	code int
}

func outcomeOf(out []byte, code int) outcome { return outcome{string(out), code} }

func solved(text string) outcome { return outcomeOf(solve.Solve([]byte(text))) }

func solvedMps(text string) outcome { return outcomeOf(solve.SolveMps([]byte(text))) }

// solves asks for the answer of a text, which is told by its lines.
func solves(t *testing.T, text string, code int, want ...string) {
	t.Helper()
	if got := solved(text); got != (outcome{lines(want...), code}) {
		t.Errorf("Solve(%q):\n%q, %d, want\n%q, %d", text, got.text, got.code, lines(want...), code)
	}
}

// solvesMps asks for the answer of a text in the other format, whose lines are parted by bars.
func solvesMps(t *testing.T, text string, code int, want ...string) {
	t.Helper()
	if got := solvedMps(barred(text)); got != (outcome{lines(want...), code}) {
		t.Errorf("SolveMps(%q):\n%q, %d, want\n%q, %d", text, got.text, got.code, lines(want...), code)
	}
}

// problem reads a problem of a test's own.
func problem(text string) api.Problem {
	p, err := model.Read(text)
	if err != nil {
		panic("the test's own problem is none: " + text + ": " + err.Error())
	}
	return p
}

// reads asks for the certificate that an answer tells.
func reads(t *testing.T, p api.Problem, out, want string) {
	t.Helper()
	c, err := solve.Read(p, []byte(out))
	if err != nil || told(c) != want || len(c.X)+len(c.Y)+len(c.Ray) != lengthOf(p, c.Verdict) {
		t.Errorf("Read(%q) = %s, %v, want %s", out, told(c), err, want)
	}
}

// lengthOf tells how many numbers a certificate's lists have together.
func lengthOf(p api.Problem, verdict int) int {
	return map[int]int{api.Optimal: len(p.Vars) + len(p.Rows), api.Infeasible: len(p.Rows), api.Unbounded: 2 * len(p.Vars)}[verdict]
}

// refuses asks for ErrField, the very value, and for nothing beside it.
func refuses(t *testing.T, p api.Problem, out string) {
	t.Helper()
	if c, err := solve.Read(p, []byte(out)); err != api.ErrField || !isZero(c) {
		t.Errorf("Read(%q) = %s, %v, want ErrField", out, told(c), err)
	}
}

// enough asks whether each thing was there at least so often.
func enough(t *testing.T, least int, count map[string]int, names ...string) {
	t.Helper()
	for _, name := range names {
		if count[name] < least {
			t.Errorf("%s: only %d of %v", name, count[name], count)
		}
	}
}

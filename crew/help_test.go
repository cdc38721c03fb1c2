package crew_test

import (
	"math/big"
	"slices"
	"strconv"
	"strings"
	"testing"

	"vertex/api"
	"vertex/back"
	"vertex/crew"
	"vertex/model"
	"vertex/solve"
)

// The chapter's three texts, and their answers.
const (
	x = "min x st x >= 1 end"
	y = "max x st end"
	z = "min"

	answerX = "optimal\nvalue 1\nvar x 1\nrow R1 1\nend\n"
	answerY = "unbounded\nvar x 0 1\nend\n"
	answerZ = "error 1:4: vertex: something else is due here\n"
)

// Texts of the other two verdicts, and the answer of the first one; the second one goes to the last node that it may have, so it is slow.
const (
	none    = "min x st c: x >= 2 bounds x <= 1 end"
	stopped = "min x st 2 x - 2 y = 1 bounds x <= 250 y <= 250 int x y end"

	answerNone    = "infeasible\nrow c 1\nend\n"
	answerStopped = "stopped\nnodes 1000\nend\n"
)

// verdicts are the four.
func verdicts() []int { return []int{api.Optimal, api.Infeasible, api.Unbounded, api.Stopped} }

// textOf is a text of each verdict; of any other number one that can't be read.
func textOf(verdict int) string {
	switch verdict {
	case api.Optimal:
		return x
	case api.Infeasible:
		return none
	case api.Unbounded:
		return y
	case api.Stopped:
		return stopped
	}
	return z
}

// slow is a text that takes long to read, with the answer of textOf's for the verdict, but that a text which can't be read has its fault elsewhere.
func slow(verdict int) string {
	text := textOf(verdict)
	if text == z {
		return "min x" + strings.Repeat(" + 0 x", 3000)
	}
	return strings.Replace(text, "x st", "x"+strings.Repeat(" + 0 x", 3000)+" st", 1)
}

// wrongCrews are numbers of workers that may not be.
func wrongCrews() []int {
	return []int{0, -1, 17, 18, -16, 100, 1 << 32, 1<<32 + 1, 1<<63 - 1, -1 << 63, -1<<63 + 1}
}

// wrongVerdicts are none of the four.
func wrongVerdicts() []int {
	return []int{0, -1, 5, 6, -4, 100, 1<<32 + 1, 1<<63 - 1, -1 << 63}
}

// crews are the numbers of workers that may be.
func crews() (l []int) {
	for workers := 1; workers <= 16; workers++ {
		l = append(l, workers)
	}
	return l
}

// crewsFor are fewer of them for texts that are slow, whichever way they are told.
func crewsFor(verdict int) []int {
	if verdict == api.Stopped {
		return []int{1, 3, 16}
	}
	return crews()
}

// alone tells the answer that a text has alone.
func alone(text string) string {
	out, _ := solve.Solve([]byte(text))
	return string(out)
}

// allAlone tells the answers of texts, one after the other.
func allAlone(texts []string) (l []string) {
	for _, text := range texts {
		l = append(l, alone(text))
	}
	return l
}

// firstOf tells the place of the first answer with a verdict, told by its name.
func firstOf(answers []string, verdict int) int {
	return slices.IndexFunc(answers, func(answer string) bool {
		line, _, _ := strings.Cut(answer, "\n")
		return line == verdictOf(verdict)
	})
}

// bestOf tells what is best among certificates, as it is told by math/big, and from the last one on.
func bestOf(certs []api.Cert) (int, api.Cert) {
	place, best := -1, api.Cert{}
	for at, c := range slices.Backward(certs) {
		if c.Verdict == api.Optimal && (place < 0 || toBig(c.Value).Cmp(toBig(best.Value)) <= 0) {
			place, best = at, c
		}
	}
	return place, best
}

// certsOf tells the certificates of problems, one after the other.
func certsOf(l []api.Problem) (certs []api.Cert) {
	for _, p := range l {
		certs = append(certs, back.Solve(p))
	}
	return certs
}

// problems reads problems of a test's own, their texts without the end.
func problems(texts ...string) (l []api.Problem) {
	for _, text := range texts {
		p, err := model.Read(text + " end")
		if err != nil {
			panic("the test's own problem is none: " + text + ": " + err.Error())
		}
		l = append(l, p)
	}
	return l
}

// slowProblem is one that takes the longer to solve, the more terms it has: min x, x from value on.
func slowProblem(value int64, terms int) api.Problem {
	p := problems("min x st x >= 0 bounds x >= 0")[0]
	p.Vars[0].Lo.At = fromBig(big.NewRat(value, 1))
	p.Rows[0].Terms = slices.Repeat(p.Rows[0].Terms, terms)
	return p
}

// answersAll asks for the answers of texts by so many workers.
func answersAll(t *testing.T, texts []string, workers int, want []string) {
	t.Helper()
	if got, err := crew.All(texts, workers); err != nil || !slices.Equal(got, want) {
		t.Errorf("All(%.99q, %d) = %q, %v, want %q", texts, workers, got, err, want)
	}
}

// answersFirst asks for the place of the first text with a verdict.
func answersFirst(t *testing.T, texts []string, workers, verdict, want int) {
	t.Helper()
	if got, err := crew.First(texts, workers, verdict); err != nil || got != want {
		t.Errorf("First(%.99q, %d, %s) = %d, %v, want %d", texts, workers, verdictOf(verdict), got, err, want)
	}
}

// answersBest asks for the place and for the certificate of what is best.
func answersBest(t *testing.T, l []api.Problem, workers, want int, cert string) {
	t.Helper()
	got, c, err := crew.Best(l, workers)
	if err != nil || got != want || told(c) != cert || want < 0 && !isZero(c) {
		t.Errorf("Best of %d problems by %d = %d, %s, %v, want %d, %s", len(l), workers, got, told(c), err, want, cert)
	}
}

// nothing is how the zero certificate is told.
const nothing = "0"

func bigOf(a api.Nat) *big.Int {
	n := new(big.Int)
	for _, limb := range slices.Backward(a) {
		n.Lsh(n, 64).Or(n, new(big.Int).SetUint64(limb))
	}
	return n
}

func limbsOf(n *big.Int) (a api.Nat) {
	for _, w := range new(big.Int).Abs(n).Bits() {
		a = append(a, uint64(w))
	}
	return a
}

func toBig(a api.Rat) *big.Rat {
	num, den := bigOf(a.Num.Mag), bigOf(a.Den)
	if den.Sign() == 0 {
		return new(big.Rat)
	}
	if a.Num.Neg {
		num.Neg(num)
	}
	return new(big.Rat).SetFrac(num, den)
}

// fromBig tells a number in its one form.
func fromBig(n *big.Rat) api.Rat {
	return api.Rat{Num: api.Int{Neg: n.Sign() < 0, Mag: limbsOf(n.Num())}, Den: limbsOf(n.Denom())}
}

// odd tells a number in another form: with a common divisor, and with limbs of nought at the end.
func odd(n *big.Rat) api.Rat {
	six := func(n *big.Int) api.Nat { return append(limbsOf(new(big.Int).Mul(n, big.NewInt(6))), 0, 0) }
	return api.Rat{Num: api.Int{Neg: n.Sign() < 0, Mag: six(n.Num())}, Den: six(n.Denom())}
}

// numberOf tells a number by its very fields, so that another form is another text.
func numberOf(a api.Rat) string {
	s := bigOf(a.Num.Mag).String()
	if a.Num.Neg {
		s = "-" + s
	}
	for _, l := range []api.Nat{a.Num.Mag, a.Den} {
		if n := len(l); n > 0 && l[n-1] == 0 {
			s += " with noughts"
		}
	}
	if slices.Equal(a.Den, api.Nat{1}) {
		return s
	}
	return s + "/" + bigOf(a.Den).String()
}

// listOf tells numbers behind a name, and nothing if there are none.
func listOf(name string, l []api.Rat) string {
	if len(l) == 0 {
		return ""
	}
	s := ", " + name
	for _, x := range l {
		s += " " + numberOf(x)
	}
	return s
}

// verdictOf tells a verdict by its name, and one that is none by its number.
func verdictOf(verdict int) string {
	switch verdict {
	case api.Optimal:
		return "optimal"
	case api.Infeasible:
		return "infeasible"
	case api.Unbounded:
		return "unbounded"
	case api.Stopped:
		return "stopped"
	}
	return strconv.Itoa(verdict)
}

// told writes a certificate out, all of it; a Value is told where it has a meaning, or is there at all.
func told(c api.Cert) string {
	s := verdictOf(c.Verdict)
	if c.Verdict == api.Optimal || toBig(c.Value).Sign() != 0 {
		s += ", value " + numberOf(c.Value)
	}
	return s + listOf("X", c.X) + listOf("Y", c.Y) + listOf("Ray", c.Ray)
}

// isZero tells whether a certificate is the zero value, lists without elements in either way.
func isZero(c api.Cert) bool {
	return c.Verdict == 0 && c.Value.Den == nil && c.Value.Num.Mag == nil && !c.Value.Num.Neg && len(c.X)+len(c.Y)+len(c.Ray) == 0
}

// enough asks whether each thing was there at least so often.
func enough(t *testing.T, least int, count map[string]int, names ...string) {
	t.Helper()
	for _, name := range names {
		if count[name] < least {
			t.Errorf("%s: only %d of %v", name, count[name], count)
		}
	}
}

package board_test

import (
	"fmt"
	"math/big"
	"slices"
	"strings"
	"testing"

	"vertex/api"
	"vertex/board"
)

// The tests hold the package against math/big; numbers go there and back limb by limb.
func bigOf(a api.Nat) *big.Int {
	n := new(big.Int)
	for _, limb := range slices.Backward(a) {
		n.Lsh(n, 64).Or(n, new(big.Int).SetUint64(limb))
	}
	return n
}

func toBig(a api.Rat) *big.Rat {
	num, den := bigOf(a.Num.Mag), bigOf(a.Den)
	if den.Sign() == 0 {
		return new(big.Rat)
	}
	if a.Num.Neg {
		num.Neg(num)
	}
	return new(big.Rat).SetFrac(num, den)
}

// fromBig tells a number in its one form.
func fromBig(n *big.Rat) api.Rat {
	limbs := func(n *big.Int) (a api.Nat) {
		for _, w := range new(big.Int).Abs(n).Bits() {
			a = append(a, uint64(w))
		}
		return a
	}
	return api.Rat{Num: api.Int{Neg: n.Sign() < 0, Mag: limbs(n.Num())}, Den: limbs(n.Denom())}
}

func whole(n int64) *big.Rat { return big.NewRat(n, 1) }

func plus(a, b *big.Rat) *big.Rat { return new(big.Rat).Add(a, b) }

func minus(a, b *big.Rat) *big.Rat { return new(big.Rat).Sub(a, b) }

func times(a, b *big.Rat) *big.Rat { return new(big.Rat).Mul(a, b) }

func by(a, b *big.Rat) *big.Rat { return new(big.Rat).Quo(a, b) }

// numberIn is a number of a list, 0 where it is missing.
func numberIn(l []api.Rat, i int) *big.Rat {
	if 0 <= i && i < len(l) {
		return toBig(l[i])
	}
	return whole(0)
}

// entryOf is a number of a standard, 0 where it is missing.
func entryOf(s api.Standard, i, j int) *big.Rat {
	if i < len(s.A) && j < len(s.C) {
		return numberIn(s.A[i], j)
	}
	return whole(0)
}

// num reads a number of a test's own.
func num(s string) api.Rat {
	n, ok := new(big.Rat).SetString(s)
	if !ok {
		panic("the test's own number is none: " + s)
	}
	return fromBig(n)
}

// odd tells a number in another form: with a common divisor, and with limbs of nought at the end.
func odd(s string) api.Rat {
	a := num(s)
	times := func(a api.Nat) api.Nat {
		return append(fromBig(new(big.Rat).SetInt(new(big.Int).Mul(bigOf(a), big.NewInt(6)))).Num.Mag, 0, 0)
	}
	a.Num.Mag, a.Den = times(a.Num.Mag), times(a.Den)
	return a
}

// noughts are the ways in which nought is told.
func noughts() []api.Rat {
	return []api.Rat{{}, {Den: api.Nat{1}}, {Num: api.Int{Neg: true}, Den: api.Nat{3}}, {Num: api.Int{Mag: api.Nat{5}}}, {Num: api.Int{Neg: true, Mag: api.Nat{5}}, Den: api.Nat{0, 0}}, {Num: api.Int{Mag: api.Nat{0, 0}}, Den: api.Nat{7}}}
}

// numberOf tells a number by its very fields, so that another form is another text.
func numberOf(a api.Rat) string {
	s := bigOf(a.Num.Mag).String()
	if a.Num.Neg {
		s = "-" + s
	}
	for _, l := range []api.Nat{a.Num.Mag, a.Den} {
		if n := len(l); n > 0 && l[n-1] == 0 {
			s += " with noughts"
		}
	}
	if slices.Equal(a.Den, api.Nat{1}) {
		return s
	}
	return s + "/" + bigOf(a.Den).String()
}

// list reads numbers that stand apart by blanks.
func list(s string) (l []api.Rat) {
	for _, x := range strings.Fields(s) {
		l = append(l, num(x))
	}
	return l
}

// numbersOf tells numbers by their very fields, apart by blanks.
func numbersOf(l []api.Rat) string {
	var s []string
	for _, x := range l {
		s = append(s, numberOf(x))
	}
	return strings.Join(s, " ")
}

// standard reads a standard: its rows, each with its right side behind a =, then its costs behind a C.
func standard(text string) (s api.Standard) {
	for _, part := range strings.Split(text, ";") {
		if costs, found := strings.CutPrefix(strings.TrimSpace(part), "C"); found {
			s.C = list(costs)
			continue
		}
		numbers, right, found := strings.Cut(part, "=")
		if !found {
			panic("the test's own standard is none: " + text)
		}
		s.A, s.B = append(s.A, list(numbers)), append(s.B, num(strings.TrimSpace(right)))
	}
	return s
}

// laid is the board of a standard that is told by a text.
func laid(text string) *board.Board { return board.New(standard(text)) }

// example is the chapter's standard.
const example = "1 1 0 = 4; -1 1 = -2; C 1 1 0"

// tableau is what may be asked of a board; the second telling may be asked it too.
type tableau interface {
	Rows() int
	Cols() int
	At(i, j int) api.Rat
	Right(i int) api.Rat
	Basis() []int
	Turned(i int) bool
	Cost(c []api.Rat)
	Reduced(j int) api.Rat
	Worth() api.Rat
	Mult(i int) api.Rat
	Enter(n int) int
	Leave(j int) int
	Pivot(i, j int) error
	Drop(i int) error
}

// shown writes out all that a board answers, also of two places on either side of what is there.
func shown(b tableau) string {
	var w strings.Builder
	m, n := b.Rows(), b.Cols()
	fmt.Fprintf(&w, "%d rows, %d columns, basis %v", m, n, b.Basis())
	for i := -2; i < m+2; i++ {
		fmt.Fprintf(&w, "\n%d:", i)
		for j := -2; j < n+2; j++ {
			w.WriteString(" " + numberOf(b.At(i, j)))
		}
		fmt.Fprintf(&w, " = %s, %v, %s", numberOf(b.Right(i)), b.Turned(i), numberOf(b.Mult(i)))
	}
	for j := -2; j < n+2; j++ {
		fmt.Fprintf(&w, "\n%d: %s, %d, %d", j, numberOf(b.Reduced(j)), b.Enter(j), b.Leave(j))
	}
	return w.String() + "\nworth " + numberOf(b.Worth())
}

// rowIs asks for a row, of all columns, and its right side.
func rowIs(t *testing.T, b *board.Board, i int, want string) {
	t.Helper()
	var l []api.Rat
	for j := range b.Cols() {
		l = append(l, b.At(i, j))
	}
	if got := strings.TrimSpace(numbersOf(l) + " = " + numberOf(b.Right(i))); got != want {
		t.Errorf("row %d: %s, want %s", i, got, want)
	}
}

// basisIs asks for the basis.
func basisIs(t *testing.T, b *board.Board, want ...int) {
	t.Helper()
	if got := b.Basis(); !slices.Equal(got, want) {
		t.Errorf("the basis is %v, want %v", got, want)
	}
}

// is asks for a number.
func is(t *testing.T, what string, got api.Rat, want string) {
	t.Helper()
	if numberOf(got) != want {
		t.Errorf("%s: %s, want %s", what, numberOf(got), want)
	}
}

// reducedAre asks for the reduced costs of all columns, and for what they are worth.
func reducedAre(t *testing.T, b *board.Board, want, worth string) {
	t.Helper()
	var l []api.Rat
	for j := range b.Cols() {
		l = append(l, b.Reduced(j))
	}
	if got := numbersOf(l); got != want {
		t.Errorf("reduced costs: %s, want %s", got, want)
	}
	is(t, "worth", b.Worth(), worth)
}

// multAre asks for the multipliers of all rows.
func multAre(t *testing.T, b *board.Board, want string) {
	t.Helper()
	var l []api.Rat
	for i := range b.Rows() {
		l = append(l, b.Mult(i))
	}
	if got := numbersOf(l); got != want {
		t.Errorf("multipliers: %s, want %s", got, want)
	}
}

// must does what has no error.
func must(t *testing.T, err error) {
	t.Helper()
	if err != nil {
		t.Fatal(err)
	}
}

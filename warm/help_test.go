package warm_test

import (
	"fmt"
	"math/big"
	"slices"
	"strings"
	"testing"

	"vertex/api"
	"vertex/board"
	"vertex/climb"
	"vertex/warm"
)

// The tests hold the package against math/big; numbers go there and back limb by limb.
func bigOf(a api.Nat) *big.Int {
	n := new(big.Int)
	for _, limb := range slices.Backward(a) {
		n.Lsh(n, 64).Or(n, new(big.Int).SetUint64(limb))
	}
	return n
}

func toBig(a api.Rat) *big.Rat {
	num, den := bigOf(a.Num.Mag), bigOf(a.Den)
	if den.Sign() == 0 {
		return new(big.Rat)
	}
	if a.Num.Neg {
		num.Neg(num)
	}
	return new(big.Rat).SetFrac(num, den)
}

// fromBig tells a number in its one form.
func fromBig(n *big.Rat) api.Rat {
	limbs := func(n *big.Int) (a api.Nat) {
		for _, w := range new(big.Int).Abs(n).Bits() {
			a = append(a, uint64(w))
		}
		return a
	}
	return api.Rat{Num: api.Int{Neg: n.Sign() < 0, Mag: limbs(n.Num())}, Den: limbs(n.Denom())}
}

func whole(n int64) *big.Rat { return big.NewRat(n, 1) }

func plus(a, b *big.Rat) *big.Rat { return new(big.Rat).Add(a, b) }

func minus(a, b *big.Rat) *big.Rat { return new(big.Rat).Sub(a, b) }

func times(a, b *big.Rat) *big.Rat { return new(big.Rat).Mul(a, b) }

func by(a, b *big.Rat) *big.Rat { return new(big.Rat).Quo(a, b) }

func turn(a *big.Rat) *big.Rat { return new(big.Rat).Neg(a) }

// numberIn is a number of a list, 0 where it is missing.
func numberIn(l []api.Rat, i int) *big.Rat {
	if 0 <= i && i < len(l) {
		return toBig(l[i])
	}
	return whole(0)
}

// entryOf is a number of a standard, 0 where it is missing.
func entryOf(s api.Standard, i, j int) *big.Rat {
	if i < len(s.A) && j < len(s.C) {
		return numberIn(s.A[i], j)
	}
	return whole(0)
}

// num reads a number of a test's own.
func num(s string) api.Rat {
	n, ok := new(big.Rat).SetString(s)
	if !ok {
		panic("the test's own number is none: " + s)
	}
	return fromBig(n)
}

// odd tells a number in another form: with a common divisor, and with limbs of nought at the end.
func odd(s string) api.Rat {
	a := num(s)
	times := func(a api.Nat) api.Nat {
		return append(fromBig(new(big.Rat).SetInt(new(big.Int).Mul(bigOf(a), big.NewInt(6)))).Num.Mag, 0, 0)
	}
	a.Num.Mag, a.Den = times(a.Num.Mag), times(a.Den)
	return a
}

// noughts are the ways in which nought is told.
func noughts() []api.Rat {
	return []api.Rat{{}, {Den: api.Nat{1}}, {Num: api.Int{Neg: true}, Den: api.Nat{3}}, {Num: api.Int{Mag: api.Nat{5}}}, {Num: api.Int{Neg: true, Mag: api.Nat{5}}, Den: api.Nat{0, 0}}, {Num: api.Int{Mag: api.Nat{0, 0}}, Den: api.Nat{7}}}
}

// numberOf tells a number by its very fields, so that another form is another text.
func numberOf(a api.Rat) string {
	s := bigOf(a.Num.Mag).String()
	if a.Num.Neg {
		s = "-" + s
	}
	for _, l := range []api.Nat{a.Num.Mag, a.Den} {
		if n := len(l); n > 0 && l[n-1] == 0 {
			s += " with noughts"
		}
	}
	if slices.Equal(a.Den, api.Nat{1}) {
		return s
	}
	return s + "/" + bigOf(a.Den).String()
}

// list reads numbers that stand apart by blanks.
func list(s string) (l []api.Rat) {
	for _, x := range strings.Fields(s) {
		l = append(l, num(x))
	}
	return l
}

// numbersOf tells numbers by their very fields, apart by blanks.
func numbersOf(l []api.Rat) string {
	var s []string
	for _, x := range l {
		s = append(s, numberOf(x))
	}
	return strings.Join(s, " ")
}

// standard reads a standard: its rows, each with its right side behind a =; its costs behind a C, its constant behind a K.
func standard(text string) (s api.Standard) {
	for _, part := range strings.Split(text, ";") {
		part = strings.TrimSpace(part)
		numbers, right, isRow := strings.Cut(part, "=")
		costs, isCosts := strings.CutPrefix(part, "C")
		constant, isConstant := strings.CutPrefix(part, "K")
		switch {
		case isRow:
			s.A, s.B = append(s.A, list(numbers)), append(s.B, num(strings.TrimSpace(right)))
		case isCosts:
			s.C = list(costs)
		case isConstant:
			s.K = num(strings.TrimSpace(constant))
		default:
			panic("the test's own standard is none: " + text)
		}
	}
	return s
}

// told writes out all of an outcome, but lists without elements; numbers by their very fields.
func told(o api.Outcome) string {
	verdicts := []string{"none", "optimal", "infeasible", "unbounded", "stopped"}
	s := verdicts[o.Verdict]
	if toBig(o.Value).Sign() != 0 || o.Verdict == api.Optimal {
		s += " " + numberOf(o.Value)
	}
	for _, part := range []struct {
		name    string
		numbers []api.Rat
	}{{"point", o.Point}, {"mult", o.Mult}, {"ray", o.Ray}} {
		if len(part.numbers) > 0 {
			s += ", " + part.name + " " + numbersOf(part.numbers)
		}
	}
	if len(o.Basis) > 0 {
		s += ", basis " + columnsOf(o.Basis)
	}
	s += ", pivots " + columnsOf(o.Pivots[:])
	if len(o.Trail) > 0 {
		s += ", trail"
	}
	for _, basis := range o.Trail {
		s += " (" + columnsOf(basis) + ")"
	}
	return s
}

func columnsOf(l []int) string { return strings.Trim(fmt.Sprint(l), "[]") }

// runs asks for the outcome of a standard that is told by a text, begun at a list, whole.
func runs(t *testing.T, text string, basis []int, want string) {
	t.Helper()
	if got := told(warm.Run(standard(text), basis)); got != want {
		t.Errorf("Run of %s, begun at %v:\n%s, want\n%s", text, basis, got, want)
	}
}

// runsAsClimb asks that all of an outcome is climb.Run's.
func runsAsClimb(t *testing.T, text string, basis []int) {
	t.Helper()
	runs(t, text, basis, told(climb.Run(standard(text))))
}

// places asks for the board that Place answers: its basis, its right sides, and whether it is whole.
func places(t *testing.T, text string, list []int, basis []int, right string, isWhole bool) *board.Board {
	t.Helper()
	b, is := warm.Place(standard(text), list)
	var l []api.Rat
	for i := range b.Rows() {
		l = append(l, b.Right(i))
	}
	if !slices.Equal(b.Basis(), basis) || numbersOf(l) != right || is != isWhole {
		t.Errorf("Place of %s, %v: %v, %s, %v, want %v, %s, %v", text, list, b.Basis(), numbersOf(l), is, basis, right, isWhole)
	}
	return b
}

// rowIs asks for a row, of all columns, and its right side.
func rowIs(t *testing.T, b *board.Board, i int, want string) {
	t.Helper()
	var l []api.Rat
	for j := range b.Cols() {
		l = append(l, b.At(i, j))
	}
	if got := numbersOf(l) + " = " + numberOf(b.Right(i)); got != want {
		t.Errorf("row %d: %s, want %s", i, got, want)
	}
}

// shown writes out all that a board answers.
func shown(b *board.Board) string {
	var w strings.Builder
	fmt.Fprintf(&w, "basis %v, worth %s", b.Basis(), numberOf(b.Worth()))
	for i := range b.Rows() {
		fmt.Fprintf(&w, "\n%d:", i)
		for j := range b.Cols() {
			w.WriteString(" " + numberOf(b.At(i, j)))
		}
		fmt.Fprintf(&w, " = %s, %v, mult %s", numberOf(b.Right(i)), b.Turned(i), numberOf(b.Mult(i)))
	}
	for j := range b.Cols() {
		w.WriteString("\n" + numberOf(b.Reduced(j)))
	}
	return w.String()
}

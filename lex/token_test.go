package lex_test

import (
	"math/big"
	"slices"
	"strings"
	"testing"

	"vertex/api"
	"vertex/lex"
)

// P5.4: each sign alone, between names, and between blanks.
func TestSigns(t *testing.T) {
	for text, kind := range map[string]int{
		"+": api.TPlus, "-": api.TMinus, ":": api.TColon, "<": api.TLess, "<=": api.TLess, "=<": api.TLess, ">": api.TGreater, ">=": api.TGreater, "=>": api.TGreater, "=": api.TEqual,
	} {
		scansAt(t, text, at(1, 1, sign(kind, text)))
		scansAt(t, "x"+text+"y", at(1, 1, name("x")), at(1, 2, sign(kind, text)), at(1, 2+len(text), name("y")))
		scansAt(t, " "+text+" 1", at(1, 2, sign(kind, text)), at(1, 3+len(text), number("1", 1, 1)))
	}
}

// P5.4: of a run of signs the longest one that stands at its beginning, and what is left then.
func TestRunsOfSigns(t *testing.T) {
	kinds := map[string]int{"+": api.TPlus, "-": api.TMinus, ":": api.TColon, "<": api.TLess, "<=": api.TLess, "=<": api.TLess, ">": api.TGreater, ">=": api.TGreater, "=>": api.TGreater, "=": api.TEqual}
	for _, s := range []string{
		"<= =", "=< =", "=< <", "= =", "<= >", ">= <", "=> =", "=> >", ">= =", "=< >", "=> <", "< <", "> >", "< >", "> <", "<= <=", "=< =<", ">= =>", "=> =>", "=< = =", "<= = =", "+ +", "+ -", "- + -", ": :", ": =", "= :", "+ =", "= +", "- <= -", "< <=", "> >=",
	} {
		var want []api.Token
		for _, text := range strings.Fields(s) {
			want = append(want, sign(kinds[text], text))
		}
		scans(t, strings.ReplaceAll(s, " ", ""), want...)
		scans(t, s, want...)
	}
	// With blanks between, those that would be one sign are two.
	scans(t, "< = > = = <", sign(api.TLess, "<"), sign(api.TEqual, "="), sign(api.TGreater, ">"), sign(api.TEqual, "="), sign(api.TEqual, "="), sign(api.TLess, "<"))
}

// P5.5: the longest beginning that is a literal, and what stands behind it.
func TestNumbers(t *testing.T) {
	for _, x := range []struct {
		text, behind string
		num, den     int64
	}{
		{"0", "", 0, 1}, {"7", "", 7, 1}, {"007", "", 7, 1}, {"123456789", "", 123456789, 1},
		{"1.5", "", 3, 2}, {".5", "", 1, 2}, {"5.", "", 5, 1}, {"0.", "", 0, 1}, {".0", "", 0, 1}, {"00.50", "", 1, 2},
		{"2e5", "", 200000, 1}, {"2E5", "", 200000, 1}, {"2e+3", "", 2000, 1}, {"2E-3", "", 1, 500}, {"5.e1", "", 50, 1}, {".5e1", "", 5, 1}, {"1.25E-0", "", 5, 4}, {"0e9999", "", 0, 1}, {"2e0000003", "", 2000, 1},
		{"1/3", "", 1, 3}, {"6/4", "", 3, 2}, {"0/5", "", 0, 1}, {"010/020", "", 1, 2}, {"4/02", "", 2, 1},
		{"3", "e", 3, 1}, {"3", "E", 3, 1}, {"3", "e+", 3, 1}, {"3", "e-x", 3, 1}, {"3", "E+-1", 3, 1}, {"3", "ee5", 3, 1}, {"3", "e.5", 3, 1}, {"3", "e 5", 3, 1}, {"3", "x5", 3, 1}, {"3", "end", 3, 1}, {"1.5", "e", 3, 2}, {"1.", "e", 1, 1}, {".5", "e-", 1, 2},
		{"2e5", "x", 200000, 1}, {"2e5", "e5", 200000, 1}, {"2e5", ".5", 200000, 1}, {"2e5", "+1", 200000, 1}, {"1e2", "e3", 100, 1},
		{"5.", ".5", 5, 1}, {"1.2", ".3", 6, 5}, {".5", ".5", 1, 2}, {"1.", ".", 1, 1},
		{"1/3", "x", 1, 3}, {"1/2", "e3", 1, 2}, {"1/2", ".5", 1, 2}, {"1/2", "/3", 1, 2}, {"1/2", "E", 1, 2},
		{"1", "/", 1, 1}, {"1", "/x", 1, 1}, {"1", "/.5", 1, 1}, {"1", "/-2", 1, 1}, {"1", "/ 2", 1, 1}, {"1", " /2", 1, 1}, {"1", "//2", 1, 1}, {"1", "/e5", 1, 1}, {"1.5", "/2", 3, 2}, {"5.", "/2", 5, 1}, {".5", "/2", 1, 2}, {"1e2", "/2", 100, 1},
		{"3", "\n5", 3, 1}, {"3", "\\5", 3, 1}, {"3", "*", 3, 1}, {"3", "\xff", 3, 1}, {"3", "_", 3, 1}, {"3", "(", 3, 1}, {"3", ",5", 3, 1}, {"3", "'000", 3, 1}, {"0", "x1f", 0, 1}, {"0", "b1", 0, 1}, {"1", "_000", 1, 1}, {"3", "i", 3, 1}, {"1", "p3", 1, 1}, {"1", "inf", 1, 1},
	} {
		for ahead, n := range map[string]int{"": 0, " ": 0, "\n": 0, "-": 1, "+": 1, "<=": 1, "x ": 1} {
			s, want := ahead+x.text+x.behind, number(x.text, x.num, x.den)
			if got := slices.Collect(lex.All(s)); len(got) <= n || !alike(got[n], want) {
				t.Errorf("All(%q): %v, want %v as token %d", s, got, want, n)
			}
		}
	}
	scans(t, "1/2e3", number("1/2", 1, 2), name("e3"))
	scans(t, "3e+x", number("3", 3, 1), name("e"), sign(api.TPlus, "+"), name("x"))
	scans(t, "1.2.3", number("1.2", 6, 5), number(".3", 3, 10))
	scans(t, "3.e", number("3.", 3, 1), name("e"))
	scans(t, "3inf", number("3", 3, 1), word(api.WInf, "inf"))
	fails(t, "1/x", 1, 2, api.ErrChar, number("1", 1, 1))
	fails(t, "1/-2", 1, 2, api.ErrChar, number("1", 1, 1))
	fails(t, "5./2", 1, 3, api.ErrChar, number("5.", 5, 1))
	fails(t, "1e2/2", 1, 4, api.ErrChar, number("1e2", 100, 1))
	fails(t, "1/2/3", 1, 4, api.ErrChar, number("1/2", 1, 2))
}

// P5.5: long literals, and the last exponents that may be.
func TestLongNumbers(t *testing.T) {
	tens := new(big.Int).Exp(big.NewInt(10), big.NewInt(api.MaxExponent), nil)
	great := api.Token{Kind: api.TNumber, Num: one(new(big.Rat).SetInt(tens))}
	least := api.Token{Kind: api.TNumber, Num: one(new(big.Rat).SetFrac(big.NewInt(1), tens))}
	for text, want := range map[string]api.Token{"1e9999": great, "1E+9999": great, "1e0009999": great, "1e-9999": least, "1" + strings.Repeat("0", 9999): great, "." + strings.Repeat("0", 9998) + "1": least, "1/1" + strings.Repeat("0", 9999): least} {
		want.Text = text
		scans(t, text, want)
		scans(t, "x<="+text+"y", name("x"), sign(api.TLess, "<="), want, name("y"))
	}
	digits := strings.Repeat("1234567890", 50)
	n, _ := new(big.Int).SetString(digits, 10)
	scans(t, digits+"x", api.Token{Kind: api.TNumber, Text: digits, Num: one(new(big.Rat).SetInt(n))}, name("x"))
}

// P5.5: a literal whose number there isn't, and a point with no digit behind it.
func TestNoNumbers(t *testing.T) {
	for _, s := range []string{"1e10000", "1E+10000", "1e-10000", "0e10000", "1.5e99999999999999999999", ".5e-010000", "5.e10000", "1e10000x", "1e10000/2", "1e10000.5", "1e10000e1"} {
		fails(t, s, 1, 1, api.ErrExponent)
		fails(t, "x\n +"+s, 2, 3, api.ErrExponent, name("x"), sign(api.TPlus, "+"))
	}
	for _, s := range []string{"1/0", "0/0", "1/00", "00/000", "1/0x", "1/0.5", "1/0/2", "12/0e1"} {
		fails(t, s, 1, 1, api.ErrDivide)
		fails(t, "x\n +"+s, 2, 3, api.ErrDivide, name("x"), sign(api.TPlus, "+"))
	}
	for _, s := range []string{".", "..", "..5", ".e5", ".x", ". 5", ".\n5", ".\\\n5", ".+5", "./5", ".*", ".E-1", ".\xff"} {
		fails(t, s, 1, 1, api.ErrNumber)
		fails(t, "x\n +"+s, 2, 3, api.ErrNumber, name("x"), sign(api.TPlus, "+"))
	}
	fails(t, "5...5", 1, 3, api.ErrNumber, number("5.", 5, 1))
	fails(t, "1e5..", 1, 4, api.ErrNumber, number("1e5", 100000, 1))
	// Digits behind one that isn't a nought make it a number.
	scans(t, "1/01 1/10", number("1/01", 1, 1), number("1/10", 1, 10))
}

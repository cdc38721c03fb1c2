package mps_test

import (
	"math/big"
	"math/rand"
	"strings"

	"vertex/api"
)

// chance makes texts and problems, the same ones at each run.
type chance struct{ *rand.Rand }

func chances(seed int64) chance { return chance{rand.New(rand.NewSource(seed))} }

func (r chance) of(l ...string) string { return l[r.Intn(len(l))] }

// number makes a number, most of them small, in any form.
func (r chance) number() api.Rat {
	n := big.NewRat(int64(r.Intn(9)-4), int64(1+r.Intn(3)))
	if r.Intn(20) == 0 {
		n.Mul(n, new(big.Rat).SetFrac(new(big.Int).Lsh(big.NewInt(5), uint(r.Intn(200))), big.NewInt(1+r.Int63())))
	}
	a := fromBig(n)
	switch r.Intn(6) {
	case 0:
		return odd(n.RatString())
	case 1:
		a.Num.Mag, a.Den = append(a.Num.Mag, 0), append(a.Den, 0, 0)
	case 2:
		if n.Sign() == 0 {
			return noughts()[r.Intn(len(noughts()))]
		}
	}
	return a
}

// bound makes a bound, of which many are absent, whatever number stands in them.
func (r chance) bound() api.Bound { return api.Bound{Has: r.Intn(3) > 0, At: r.number()} }

// name makes a name, mostly a word; few are alike.
func (r chance) name() string {
	switch r.Intn(40) {
	case 0:
		return r.of(append(noWords, "-")...)
	case 1, 2, 3:
		return r.of(wordsOfAllKinds...)
	}
	return string(rune('a'+r.Intn(26))) + string(rune('A'+r.Intn(26)))
}

// problem makes a problem by hand, with terms of any places.
func (r chance) problem() api.Problem {
	p := api.Problem{Max: r.Intn(2) == 0, Const: r.number()}
	if r.Intn(2) == 0 {
		p.Name = r.name()
	}
	for range r.Intn(5) {
		p.Vars = append(p.Vars, api.Var{Name: r.name(), Obj: r.number(), Lo: r.bound(), Hi: r.bound(), Whole: r.Intn(2) == 0})
	}
	for range r.Intn(5) {
		row := api.Row{Name: r.name(), Lo: r.bound(), Hi: r.bound()}
		for range r.Intn(7) {
			row.Terms = append(row.Terms, api.Term{Var: r.Intn(len(p.Vars)+4) - 2, Coef: r.number()})
		}
		p.Rows = append(p.Rows, row)
	}
	return p
}

func (r chance) literal() string {
	return r.of("0", "1", "-1", "2", "-3", "1/2", "-6/4", ".5", "1e2", "+7", "-0", "25e-1", "18446744073709551616")
}

// lines makes the lines of a text, each of some words, the first one empty of an entry; they are without fault, or nearly so.
func (r chance) lines() (l [][]string) {
	put := func(words ...string) { l = append(l, words) }
	rows, vars := []string{"c"}, []string{"x"}
	pairs := func(words ...string) {
		for range 1 + r.Intn(2) {
			words = append(words, r.of(rows...), r.literal())
		}
		put(words...)
	}
	if r.Intn(2) == 0 {
		put("NAME", r.of("", "a", "* x"))
	}
	if r.Intn(2) == 0 {
		put("OBJSENSE")
		for range r.Intn(3) {
			put("", r.of("MAX", "MIN"))
		}
	}
	put("ROWS")
	if r.Intn(3) == 0 {
		rows = []string{"-"}
	}
	put("", "N", rows[0])
	for _, name := range []string{"p", "q", "r", "s"}[:r.Intn(5)] {
		put("", r.of("G", "L", "E", "G", "L", "E", "N"), name)
		rows = append(rows, name)
	}
	if r.Intn(8) > 0 {
		put("COLUMNS")
		for range r.Intn(7) {
			if r.Intn(4) == 0 {
				put("", r.of("m", "x"), "'MARKER'", r.of("'INTORG'", "'INTEND'"))
			}
			name := r.of("x", "y", "z", "c", "-")
			vars = append(vars, name)
			pairs("", name)
		}
	}
	for _, head := range []string{"RHS", "RANGES"} {
		if r.Intn(3) > 0 {
			put(head)
			for range r.Intn(3) {
				pairs(strings.Fields("$ " + r.of("", "set", "q"))...)
				l[len(l)-1][0] = ""
			}
		}
	}
	if r.Intn(3) > 0 {
		put("BOUNDS")
		for range r.Intn(6) {
			words := strings.Fields(r.of("LO", "UP", "FX", "FR", "MI", "PL", "BV") + " " + r.of("", "", "set") + " " + r.of(vars...))
			if strings.Contains("LO UP FX", words[0]) {
				words = append(words, r.literal())
			}
			put(append([]string{""}, words...)...)
		}
	}
	put("ENDATA")
	return l
}

// spoilt changes something of a text's lines, so that there may be a fault.
func (r chance) spoilt(l [][]string) [][]string {
	i := r.Intn(len(l))
	line := append([]string{}, l[i]...)
	j := r.Intn(len(line))
	word := r.of("x", "c", "p", "q", "-", "1", "one", "1/0", "1e99999", "N", "G", "Q", "'MARKER'", "'INTORG'", "UP", "FR", "MAX", "ROWS", "RHS", "NAME", "ENDATA", "*", "\x00", "é")
	switch r.Intn(10) {
	case 0:
		line[j] = word
	case 1:
		line = append(line, word)
	case 2:
		line = append(line[:j:j], append([]string{word}, line[j:]...)...)
	case 3:
		if len(line) > 1 {
			line = append(line[:j:j], line[j+1:]...)
		}
	case 4:
		if len(line) > 1 {
			line = line[:len(line)-1]
		}
	case 5:
		k := r.Intn(len(l))
		l[i], l[k] = l[k], l[i]
		return l
	case 6:
		return append(l[:i:i], l[i+1:]...)
	case 7:
		return append(l[:i+1:i+1], l[r.Intn(i+1):]...)
	case 8:
		return append(l[:i:i], append([][]string{{"", word, r.of("x", "c", "p"), r.literal()}}, l[i:]...)...)
	case 9:
		line[len(line)-1] = r.of("1/0", "1e10000", "one", "+1/2", "-.5e1")
	}
	l[i] = line
	return l
}

func (r chance) gap() string { return r.of(" ", " ", " ", "\t", "\r", "  ", " \t\r ") }

// text makes a text of lines, with gaps of all kinds, and lines that are passed over.
func (r chance) text(l [][]string) string {
	var w strings.Builder
	for i, words := range l {
		for j, word := range words {
			if j > 0 {
				w.WriteString(r.gap())
			}
			w.WriteString(word)
		}
		if r.Intn(6) == 0 {
			w.WriteString(r.gap())
		}
		if i < len(l)-1 || r.Intn(2) == 0 {
			w.WriteByte('\n')
		}
		if r.Intn(9) == 0 && i < len(l)-1 {
			w.WriteString(r.of("", "*", "* a remark", "\r", " ", "*ENDATA") + "\n")
		}
	}
	return w.String()
}

package solve_test

import (
	"fmt"
	"math/big"
	"math/rand"
	"regexp"
	"strings"

	"vertex/api"
)

// chance makes texts, problems and answers, the same ones at each run.
type chance struct{ *rand.Rand }

func chances(seed int64) chance { return chance{rand.New(rand.NewSource(seed))} }

// often tells true once in so many times.
func (r chance) often(n int) bool { return r.Intn(n) == 0 }

// oneOf takes one of some words.
func (r chance) oneOf(words string) string {
	l := strings.Fields(words)
	return l[r.Intn(len(l))]
}

// literal makes a number without a sign as a text may tell it.
func (r chance) literal() string {
	switch r.Intn(8) {
	case 0:
		return fmt.Sprintf("%d/%d", r.Intn(9), 1+r.Intn(4))
	case 1:
		return r.oneOf("0 .5 1.25 2e0 20e-1 1. 007 0/3")
	}
	return fmt.Sprint(r.Intn(6))
}

// signs makes the signs ahead of a summand that isn't the first one.
func (r chance) signs() string { return r.oneOf("+ - + - + - -- -+") }

// value makes a number with a sign, or without one.
func (r chance) value() string {
	if r.often(4) {
		return "- " + r.literal()
	}
	return r.literal()
}

// sum makes a sum of some of the names, now and then with a constant in it.
func (r chance) sum(names []string) string {
	var s strings.Builder
	for range 1 + r.Intn(3) {
		if s.Len() > 0 || r.often(4) {
			s.WriteString(" " + r.signs() + " ")
		}
		if !r.often(3) {
			s.WriteString(r.literal() + " ")
		}
		s.WriteString(names[r.Intn(len(names))])
	}
	if r.often(8) {
		s.WriteString(" " + r.signs() + " " + r.literal())
	}
	return s.String()
}

// claim makes a condition, with a name or without one.
func (r chance) claim(names []string) string {
	name := ""
	if r.often(2) {
		name = r.oneOf("c c1 c2 c3 d R1 R2 R3 end row value _x (y) n#1") + ": "
	}
	switch r.Intn(9) {
	case 0:
		return name + r.literal() + r.oneOf("<= < =<") + r.sum(names) + " <= " + r.value()
	case 1:
		return name + r.sum(names) + " = " + r.value()
	case 2:
		return name + r.literal() + r.oneOf("<= >=") + r.sum(names)
	case 3:
		return name + r.literal() + " <= " + r.literal()
	}
	return name + r.sum(names) + " " + r.oneOf("<= <= <= >= >") + " " + r.value()
}

// limit makes a line of a text's bounds.
func (r chance) limit(name string) string {
	switch r.Intn(6) {
	case 0:
		return name + " free"
	case 1:
		return "-inf <= " + name + " <= " + r.value()
	case 2:
		return name + " = " + r.value()
	case 3:
		return name + " >= " + r.value()
	}
	return r.value() + " <= " + name + " <= " + r.literal()
}

// text makes a text; most are read, of all kinds of problems. Some of its variables must be whole, if it is told so.
func (r chance) text(whole bool) string {
	names := strings.Fields("x y Z_1 r.1 R1")[:r.Intn(6)]
	if len(names) == 0 {
		return r.oneOf("min MAX") + " " + r.literal() + " st " + strings.Repeat(r.literal()+" <= "+r.literal()+"\n", r.Intn(3)) + "end"
	}
	l := []string{r.oneOf("min max Maximise minimum")}
	if r.often(4) {
		l = append(l, r.oneOf("obj z R1 c1")+":")
	}
	if !r.often(8) {
		l = append(l, r.sum(names))
	}
	l = append(l, []string{"st", "s.t.", "such\tthat", "subject \\ so\n to"}[r.Intn(4)])
	for range r.Intn(5) {
		l = append(l, r.claim(names))
	}
	l = append(l, "bounds")
	for _, name := range names {
		if r.often(3) {
			l = append(l, r.limit(name))
		}
	}
	if whole {
		l = append(l, r.wholes(names)...)
	}
	return strings.Join(append(l, "end"), []string{"\n", " ", "\r\n "}[r.Intn(3)])
}

// wholes makes what a text says of whole variables; most have both bounds.
func (r chance) wholes(names []string) (l []string) {
	var mentions []string
	for _, name := range names {
		if r.often(3) {
			continue
		}
		if !r.often(30) {
			lo := max(r.Intn(5)-3, 0)
			l = append(l, fmt.Sprintf("%d/%d <= %s <= %d/%d", lo, 1+r.Intn(2), name, lo+r.Intn(5), 1+r.Intn(2)))
		}
		mentions = append(mentions, name)
	}
	if len(mentions) == 0 {
		return []string{"binary", names[0]}
	}
	return append(append(l, "int"), mentions...)
}

// spoilt changes a text by a word, or by some bytes.
func (r chance) spoilt(text string) string {
	other := r.oneOf("x 1 / . : <= = >= + - \\ * \x00 1e99999 1/0 end st inf free 1e")
	if words := regexp.MustCompile(`\S+`).FindAllStringIndex(text, -1); r.often(2) && len(words) > 0 {
		at := words[r.Intn(len(words))]
		return text[:at[0]] + other + text[at[1]:]
	}
	at := r.Intn(len(text) + 1)
	switch {
	case r.often(6):
		return text[:at]
	case r.often(2) || at == len(text):
		return text[:at] + other + text[at:]
	}
	return text[:at] + text[at+1:]
}

// small makes a number, most of them small.
func (r chance) small() *big.Rat {
	n := big.NewRat(int64(r.Intn(9)-4), int64(1+r.Intn(7)/4))
	if r.often(30) {
		n.Mul(n, new(big.Rat).SetFrac(new(big.Int).Lsh(big.NewInt(5), uint(r.Intn(150))), big.NewInt(1+r.Int63())))
	}
	return n
}

// number makes a number in one of its forms.
func (r chance) number() api.Rat {
	n := r.small()
	if r.often(4) {
		return odd(n.RatString())
	}
	return fromBig(n)
}

// bound makes a bound, or none.
func (r chance) bound() api.Bound { return api.Bound{Has: r.often(2), At: r.number()} }

// problem makes a problem by hand of names that are given, in no one form.
func (r chance) problem(name func() string, variables, rows int) api.Problem {
	p := api.Problem{Max: r.often(2), Name: name(), Const: r.number()}
	for range variables {
		p.Vars = append(p.Vars, api.Var{Name: name(), Obj: r.number(), Lo: r.bound(), Hi: r.bound()})
		if v := &p.Vars[len(p.Vars)-1]; r.often(2) {
			v.Lo = api.Bound{Has: true}
		}
	}
	for range rows {
		row := api.Row{Name: name(), Lo: r.bound(), Hi: r.bound()}
		for range r.Intn(variables + 3) {
			row.Terms = append(row.Terms, api.Term{Var: r.Intn(variables+2) - 1, Coef: r.number()})
		}
		p.Rows = append(p.Rows, row)
	}
	return p
}

// anyName makes a name that may be anything: empty, with blanks and line feeds, much like a line of an answer, or the name of another one.
func (r chance) anyName() string {
	names := []string{"x", "y", "x", "", " ", "x 1", "1", "-1/2", "x\n", "\nend\n", "end\n", "a\nvar x", "x 0\nrow y", "\xff\xfe", "ä", ".*", "var", "row x", "\x00", "\r", "x ", " x"}
	return names[r.Intn(len(names))]
}

// cert makes a certificate of a problem, of any verdict and any numbers: what it tells needs not be true.
func (r chance) cert(p api.Problem) api.Cert {
	numbers := func(n int) (l []api.Rat) {
		for range n {
			l = append(l, fromBig(r.small()))
		}
		return l
	}
	switch r.Intn(3) {
	case 0:
		return api.Cert{Verdict: api.Optimal, Value: fromBig(r.small()), X: numbers(len(p.Vars)), Y: numbers(len(p.Rows))}
	case 1:
		return api.Cert{Verdict: api.Infeasible, Y: numbers(len(p.Rows))}
	}
	return api.Cert{Verdict: api.Unbounded, X: numbers(len(p.Vars)), Ray: numbers(len(p.Vars))}
}

// retouched changes an answer by a word, a line or a byte.
func (r chance) retouched(out string) string {
	l := strings.SplitAfter(out, "\n")
	k, m := r.Intn(len(l)), r.Intn(len(l))
	switch r.Intn(8) {
	case 0:
		l[k], l[m] = l[m], l[k]
	case 1:
		l = append(l[:k:k], l[k+1:]...)
	case 2:
		l = append(l[:k:k], append([]string{l[m]}, l[k:]...)...)
	case 3:
		l[k] = strings.Replace(l[k], " ", []string{"  ", "", "\n", "\t"}[r.Intn(4)], 1)
	case 4:
		l[k] = strings.TrimSuffix(l[k], "\n") + []string{"", " \n", "\r\n", "\n\n", " 0\n", "/1\n", "0\n", "e0\n", ".\n"}[r.Intn(9)]
	case 5:
		words := strings.Split(l[k], " ")
		n := len(words) - 1
		words[n] = []string{"+", "0", "-", "00", "1", "0/", "2/"}[r.Intn(7)] + words[n]
		l[k] = strings.Join(words, " ")
	default:
		return r.spoilt(out)
	}
	return strings.Join(l, "")
}

package crew_test

import (
	"fmt"
	"math/big"
	"math/rand"
	"strings"

	"vertex/api"
)

// chance makes texts and problems, the same ones at each run.
type chance struct{ *rand.Rand }

func chances(seed int64) chance { return chance{rand.New(rand.NewSource(seed))} }

// often tells true once in so many times.
func (r chance) often(n int) bool { return r.Intn(n) == 0 }

// oneOf takes one of some words.
func (r chance) oneOf(words string) string {
	l := strings.Fields(words)
	return l[r.Intn(len(l))]
}

// sum makes a sum of some of the names.
func (r chance) sum(names []string) string {
	var s strings.Builder
	for range 1 + r.Intn(3) {
		fmt.Fprintf(&s, "%s %d/%d %s ", r.oneOf("+ + -"), r.Intn(6), 1+r.Intn(3), names[r.Intn(len(names))])
	}
	return s.String()
}

// text makes a text, of any verdict; now and then some of its variables must be whole, and now and then it can't be read.
func (r chance) text() string {
	names := strings.Fields("x y Z_1 optimal")[:1+r.Intn(4)]
	l := []string{r.oneOf("min max"), r.sum(names), "st"}
	for range r.Intn(4) {
		l = append(l, fmt.Sprintf("%s %s %d", r.sum(names), r.oneOf("<= <= >= ="), r.Intn(9)-2))
	}
	l = append(l, "bounds")
	for _, name := range names {
		if r.often(2) {
			l = append(l, fmt.Sprintf("%d/%d <= %s <= %d", r.Intn(3), 1+r.Intn(2), name, 1+r.Intn(6)))
		}
	}
	if r.often(4) {
		l = append(l, "int", names[0])
	}
	if r.often(6) {
		l[r.Intn(len(l))] = r.oneOf("* <= 1/0 end : st 1e99999")
	}
	return strings.Join(append(l, "end"), []string{" ", "\n"}[r.Intn(2)])
}

// texts makes up to n texts, some of them twice.
func (r chance) texts(n int) (l []string) {
	for range r.Intn(n + 1) {
		if len(l) > 0 && r.often(5) {
			l = append(l, l[r.Intn(len(l))])
			continue
		}
		l = append(l, r.text())
	}
	return l
}

// number makes a number, most of them small, in one of its forms.
func (r chance) number() api.Rat {
	n := big.NewRat(int64(r.Intn(9)-4), int64(1+r.Intn(3)))
	if r.often(30) {
		n.Mul(n, new(big.Rat).SetFrac(new(big.Int).Lsh(big.NewInt(5), uint(r.Intn(150))), big.NewInt(1+r.Int63())))
	}
	if r.often(4) {
		return odd(n)
	}
	return fromBig(n)
}

// bound makes a bound, or none.
func (r chance) bound() api.Bound { return api.Bound{Has: r.often(2), At: r.number()} }

// problem makes a problem by hand, of either sense and any verdict.
func (r chance) problem() api.Problem {
	p := api.Problem{Max: r.often(2), Const: r.number()}
	variables := r.Intn(4)
	for range variables {
		v := api.Var{Obj: r.number(), Lo: r.bound(), Hi: r.bound(), Whole: r.often(4)}
		if r.often(2) {
			v.Lo, v.Hi = api.Bound{Has: true}, api.Bound{Has: true, At: fromBig(big.NewRat(int64(r.Intn(6)), 2))}
		}
		p.Vars = append(p.Vars, v)
	}
	for range r.Intn(4) {
		row := api.Row{Lo: r.bound(), Hi: api.Bound{At: r.number()}}
		for range r.Intn(variables + 2) {
			row.Terms = append(row.Terms, api.Term{Var: r.Intn(variables+2) - 1, Coef: r.number()})
		}
		p.Rows = append(p.Rows, row)
	}
	return p
}

// problems makes up to n problems; many have a value that another one has, too.
func (r chance) problems(n int) (l []api.Problem) {
	for range r.Intn(n + 1) {
		switch p := r.problem(); {
		case r.often(5):
			l = append(l, api.Problem{Max: r.often(2), Const: fromBig(big.NewRat(int64(-4-r.Intn(3)), 1))})
		case len(l) > 0 && r.often(5):
			l = append(l, l[r.Intn(len(l))])
		default:
			l = append(l, p)
		}
	}
	return l
}

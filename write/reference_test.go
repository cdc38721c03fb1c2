package write_test

import (
	"math/big"
	"math/rand"
	"regexp"
	"slices"
	"strings"

	"vertex/api"
)

// nameForm is a name, and wordForm a word of the language or a part of one.
var (
	nameForm = regexp.MustCompile("^[A-Za-z!\"#$%&(),;?@_'`{}~][A-Za-z0-9!\"#$%&(),.;?@_'`{}~]*$")
	wordForm = regexp.MustCompile(`^(?i:max(imi[zs]e|imum)?|min(imi[zs]e|imum)?|st\.?|s\.t\.|subject|to|such|that|bounds?|generals?|gen|integers?|int|binary|binaries|bin|free|inf(inity)?|end)$`)
)

func isLegal(name string) bool { return nameForm.MatchString(name) && !wordForm.MatchString(name) }

// hasErrName tells whether a problem is refused, by P8.1's words.
func hasErrName(p api.Problem) bool {
	if p.Name != "" && !isLegal(p.Name) {
		return true
	}
	for i, v := range p.Vars {
		another := slices.IndexFunc(p.Vars, func(w api.Var) bool { return w.Name == v.Name })
		if !isLegal(v.Name) || another != i {
			return true
		}
	}
	for i, row := range p.Rows {
		another := slices.IndexFunc(p.Rows, func(r api.Row) bool { return r.Name == row.Name })
		if !isLegal(row.Name) || row.Name == p.Name || another != i {
			return true
		}
	}
	return false
}

// signedly and plainly are a number signed and plain, by P8.2's words.
func signedly(n *big.Rat) string {
	return map[bool]string{true: "- ", false: "+ "}[n.Sign() < 0] + new(big.Rat).Abs(n).RatString()
}

func plainly(n *big.Rat) string { return strings.TrimPrefix(signedly(n), "+ ") }

// sumOf is the sum of a row's terms, by looking for each variable among them.
func sumOf(p api.Problem, row api.Row) string {
	var summands []string
	for i, v := range p.Vars {
		coef := new(big.Rat)
		for _, t := range row.Terms {
			if t.Var == i {
				coef.Add(coef, toBig(t.Coef))
			}
		}
		if coef.Sign() != 0 {
			summands = append(summands, signedly(coef)+" "+v.Name)
		}
	}
	if len(summands) == 0 {
		return "+ 0"
	}
	return strings.Join(summands, " ")
}

// bounded tells what has bounds, by a table of forms: with neither, with Lo, with Hi, with both the same, with both unlike.
func bounded(what string, lo, hi api.Bound, forms [5]string) string {
	l, h := toBig(lo.At), toBig(hi.At)
	kind := 0
	if lo.Has {
		kind++
	}
	if hi.Has {
		kind += 2
	}
	if kind == 3 && l.Cmp(h) != 0 {
		kind++
	}
	return strings.NewReplacer("S", what, "L", plainly(l), "H", plainly(h)).Replace(forms[kind])
}

var (
	rowForms = [5]string{"S >= - inf", "S >= L", "S <= H", "S = L", "L <= S <= H"}
	varForms = [5]string{"S free", "S >= L", "- inf <= S <= H", "S = L", "L <= S <= H"}
)

// textOf is what Write is to answer, by the words of P8.2, from the problem as it stands.
func textOf(p api.Problem) string {
	first := []string{"minimize"}
	if p.Max {
		first[0] = "maximize"
	}
	var objective, rows, limits, wholes []string
	if p.Name != "" {
		objective = append(objective, p.Name+":")
	}
	for _, v := range p.Vars {
		objective = append(objective, signedly(toBig(v.Obj))+" "+v.Name)
		if limit := bounded(v.Name, v.Lo, v.Hi, varForms); limit != v.Name+" >= 0" {
			limits = append(limits, " "+limit)
		}
		if v.Whole {
			wholes = append(wholes, " "+v.Name)
		}
	}
	if n := toBig(p.Const); n.Sign() != 0 {
		objective = append(objective, signedly(n))
	}
	if objective != nil {
		first = append(first, " "+strings.Join(objective, " "))
	}
	for _, row := range p.Rows {
		rows = append(rows, " "+row.Name+": "+bounded(sumOf(p, row), row.Lo, row.Hi, rowForms))
	}
	if limits != nil {
		limits = append([]string{"bounds"}, limits...)
	}
	if wholes != nil {
		wholes = append([]string{"general"}, wholes...)
	}
	return lines(slices.Concat(first, []string{"subject to"}, rows, limits, wholes, []string{"end"})...)
}

// chance makes problems, the same ones at each run.
type chance struct{ *rand.Rand }

func chances(seed int64) chance { return chance{rand.New(rand.NewSource(seed))} }

// number makes a number, most of them small, in any form.
func (r chance) number() api.Rat {
	n := big.NewRat(int64(r.Intn(9)-4), int64(1+r.Intn(3)))
	if r.Intn(20) == 0 {
		n.Mul(n, new(big.Rat).SetFrac(new(big.Int).Lsh(big.NewInt(5), uint(r.Intn(200))), big.NewInt(1+r.Int63())))
	}
	return r.otherwise(fromBig(n))
}

// otherwise tells a number in one of its forms.
func (r chance) otherwise(a api.Rat) api.Rat {
	n := toBig(a)
	switch r.Intn(6) {
	case 0:
		return odd(n.RatString())
	case 1:
		a = fromBig(n)
		a.Num.Mag, a.Den = append(a.Num.Mag, 0), append(a.Den, 0, 0)
	case 2:
		if n.Sign() == 0 {
			return noughts()[r.Intn(len(noughts()))]
		}
	}
	return a
}

// bound makes a bound, of which many are absent, whatever number stands in them.
func (r chance) bound() api.Bound { return api.Bound{Has: r.Intn(3) > 0, At: r.number()} }

// name makes a name, mostly a legal one; few are alike.
func (r chance) name() string {
	switch r.Intn(40) {
	case 0:
		all := illegal()
		return all[r.Intn(len(all))]
	case 1, 2, 3:
		all := legal()
		return all[r.Intn(len(all))]
	}
	return string(rune('a'+r.Intn(26))) + string(rune('A'+r.Intn(26)))
}

// problem makes a problem by hand, with terms of any places.
func (r chance) problem() api.Problem {
	p := api.Problem{Max: r.Intn(2) == 0, Const: r.number()}
	if r.Intn(2) == 0 {
		p.Name = r.name()
	}
	for range r.Intn(5) {
		p.Vars = append(p.Vars, api.Var{Name: r.name(), Obj: r.number(), Lo: r.bound(), Hi: r.bound(), Whole: r.Intn(3) == 0})
	}
	for range r.Intn(5) {
		row := api.Row{Name: r.name(), Lo: r.bound(), Hi: r.bound()}
		for range r.Intn(7) {
			row.Terms = append(row.Terms, api.Term{Var: r.Intn(len(p.Vars)+4) - 2, Coef: r.number()})
		}
		p.Rows = append(p.Rows, row)
	}
	return p
}

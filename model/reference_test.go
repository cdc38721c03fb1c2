package model_test

import (
	"math/big"
	"math/rand"
	"slices"
	"strconv"

	"vertex/api"
)

// sumOf adds up, by math/big.
func sumOf(l ...api.Rat) *big.Rat {
	sum := new(big.Rat)
	for _, a := range l {
		sum.Add(sum, toBig(a))
	}
	return sum
}

// coefOf is the sum of the Coefs of the items with a name, or without one.
func coefOf(items []api.Item, name string) *big.Rat {
	var l []api.Rat
	for _, x := range items {
		if x.Name == name {
			l = append(l, x.Coef)
		}
	}
	return sumOf(l...)
}

// namesOf are all names that stand in a text's lists, one behind the other, each where it first stands.
func namesOf(t api.Text) (names []string) {
	var all []string
	items := slices.Clone(t.Items)
	for _, c := range t.Claims {
		items = append(items, c.Items...)
	}
	for _, x := range items {
		all = append(all, x.Name)
	}
	for _, x := range t.Limits {
		all = append(all, x.Name)
	}
	for _, x := range slices.Concat(t.Wholes, t.Twos) {
		all = append(all, x.Name)
	}
	for i, name := range all {
		if name != "" && slices.Index(all, name) == i {
			names = append(names, name)
		}
	}
	return names
}

// variableOf is a name's variable, by P7.2's words.
func variableOf(t api.Text, name string) api.Var {
	is := func(m api.Mention) bool { return m.Name == name }
	v := api.Var{Name: name, Obj: fromBig(coefOf(t.Items, name)), Lo: has("0")}
	for _, l := range t.Limits {
		if l.Name == name && l.SetLo {
			v.Lo = l.Lo
		}
		if l.Name == name && l.SetHi {
			v.Hi = l.Hi
		}
	}
	v.Lo, v.Hi = lessThan(v.Lo, new(big.Rat)), lessThan(v.Hi, new(big.Rat))
	if slices.ContainsFunc(t.Twos, is) {
		v.Lo, v.Hi = has("0"), has("1")
	}
	v.Whole = slices.ContainsFunc(t.Wholes, is) || slices.ContainsFunc(t.Twos, is)
	return v
}

// lessThan is a bound less a number.
func lessThan(b api.Bound, c *big.Rat) api.Bound {
	if !b.Has {
		return api.Bound{}
	}
	return api.Bound{Has: true, At: fromBig(new(big.Rat).Sub(toBig(b.At), c))}
}

// nameOfRow is a row's name, by P7.4's words.
func nameOfRow(t api.Text, i int, given []api.Row) string {
	if t.Claims[i].Name != "" {
		return t.Claims[i].Name
	}
	for n := i + 1; ; n++ {
		name := "R" + strconv.Itoa(n)
		claimed := slices.ContainsFunc(t.Claims, func(c api.Claim) bool { return c.Name == name })
		ahead := slices.ContainsFunc(given, func(r api.Row) bool { return r.Name == name })
		if !claimed && !ahead && t.Name != name {
			return name
		}
	}
}

// built is what Build is to answer, by the words of P7.1 to P7.4, by looking through the lists and by math/big.
func built(t api.Text) (p api.Problem, fault *api.Fault) {
	for i, c := range t.Claims {
		ahead := slices.ContainsFunc(t.Claims[:i], func(d api.Claim) bool { return d.Name == c.Name })
		if c.Name != "" && (ahead || c.Name == t.Name) {
			return api.Problem{}, &api.Fault{Line: c.Line, Col: c.Col, Err: api.ErrTwice}
		}
	}
	p = api.Problem{Max: t.Max, Name: t.Name, Const: fromBig(coefOf(t.Items, ""))}
	names := namesOf(t)
	for _, name := range names {
		p.Vars = append(p.Vars, variableOf(t, name))
	}
	for i, c := range t.Claims {
		row := api.Row{Name: nameOfRow(t, i, p.Rows), Lo: lessThan(c.Lo, coefOf(c.Items, "")), Hi: lessThan(c.Hi, coefOf(c.Items, ""))}
		for v, name := range names {
			if coef := coefOf(c.Items, name); coef.Sign() != 0 {
				row.Terms = append(row.Terms, api.Term{Var: v, Coef: fromBig(coef)})
			}
		}
		p.Rows = append(p.Rows, row)
	}
	return p, nil
}

// tidied is what Tidy is to answer, by P7.6's words.
func tidied(p api.Problem) api.Problem {
	none := new(big.Rat)
	q := api.Problem{Max: p.Max, Name: p.Name, Const: fromBig(toBig(p.Const))}
	for _, v := range p.Vars {
		v.Obj, v.Lo, v.Hi = fromBig(toBig(v.Obj)), lessThan(v.Lo, none), lessThan(v.Hi, none)
		q.Vars = append(q.Vars, v)
	}
	for _, row := range p.Rows {
		tidy := api.Row{Name: row.Name, Lo: lessThan(row.Lo, none), Hi: lessThan(row.Hi, none)}
		for v := range p.Vars {
			if coef := coefAt(row, v); coef.Sign() != 0 {
				tidy.Terms = append(tidy.Terms, api.Term{Var: v, Coef: fromBig(coef)})
			}
		}
		q.Rows = append(q.Rows, tidy)
	}
	return q
}

// coefAt is a variable's coefficient in a row.
func coefAt(row api.Row, v int) *big.Rat {
	var l []api.Rat
	for _, term := range row.Terms {
		if term.Var == v {
			l = append(l, term.Coef)
		}
	}
	return sumOf(l...)
}

// numberAt is a number of a list, 0 where it is missing.
func numberAt(x []api.Rat, i int) *big.Rat {
	if i < len(x) {
		return toBig(x[i])
	}
	return new(big.Rat)
}

// valueOf and sumsOf are what Value and Sums are to answer, by P7.7's words.
func valueOf(p api.Problem, x []api.Rat) *big.Rat {
	sum := toBig(p.Const)
	for i, v := range p.Vars {
		sum.Add(sum, new(big.Rat).Mul(toBig(v.Obj), numberAt(x, i)))
	}
	return sum
}

func sumsOf(p api.Problem, x []api.Rat) (l []*big.Rat) {
	for _, row := range p.Rows {
		sum := new(big.Rat)
		for i := range p.Vars {
			sum.Add(sum, new(big.Rat).Mul(coefAt(row, i), numberAt(x, i)))
		}
		l = append(l, sum)
	}
	return l
}

// keeps tells whether a number is neither below nor above what is there of two bounds.
func keeps(a *big.Rat, lo, hi api.Bound) bool {
	return !(lo.Has && a.Cmp(toBig(lo.At)) < 0) && !(hi.Has && a.Cmp(toBig(hi.At)) > 0)
}

// allKept is what Holds is to answer of a list of the right length, by P7.8's words.
func allKept(p api.Problem, x []api.Rat) bool {
	for i, v := range p.Vars {
		if !keeps(toBig(x[i]), v.Lo, v.Hi) {
			return false
		}
	}
	for i, sum := range sumsOf(p, x) {
		if !keeps(sum, p.Rows[i].Lo, p.Rows[i].Hi) {
			return false
		}
	}
	return true
}

// allWhole is what Whole is to answer of a list of the right length, by P7.9's words.
func allWhole(p api.Problem, x []api.Rat) bool {
	for i, v := range p.Vars {
		if v.Whole && !toBig(x[i]).IsInt() {
			return false
		}
	}
	return true
}

// chance makes numbers, problems and texts by hand.
type chance struct{ *rand.Rand }

func chances(seed int64) chance { return chance{rand.New(rand.NewSource(seed))} }

// number makes a number, most of them small, in any form.
func (r chance) number() api.Rat {
	n := big.NewRat(int64(r.Intn(9)-4), int64(1+r.Intn(3)))
	if r.Intn(20) == 0 {
		n.Mul(n, new(big.Rat).SetFrac(new(big.Int).Lsh(big.NewInt(5), uint(r.Intn(200))), big.NewInt(1+r.Int63())))
	}
	a := fromBig(n)
	switch r.Intn(6) {
	case 0:
		return odd(n.RatString())
	case 1:
		a.Num.Mag, a.Den = append(a.Num.Mag, 0), append(a.Den, 0, 0)
	case 2:
		if n.Sign() == 0 {
			return noughts()[r.Intn(len(noughts()))]
		}
	}
	return a
}

// bound makes a bound, of which many are absent, whatever number stands in them.
func (r chance) bound() api.Bound { return api.Bound{Has: r.Intn(3) > 0, At: r.number()} }

// wide makes a bound that few small numbers break.
func (r chance) wide(sign int64) api.Bound {
	return api.Bound{Has: r.Intn(3) > 0, At: fromBig(new(big.Rat).Add(toBig(r.number()), big.NewRat(9*sign, 1)))}
}

func (r chance) name() string {
	return []string{"", "", "x", "y", "z", "x", "R1", "R2", "R3", "u"}[r.Intn(10)]
}

func (r chance) items() (l []api.Item) {
	for range r.Intn(6) {
		l = append(l, api.Item{Coef: r.number(), Name: r.name(), Line: r.Intn(9), Col: r.Intn(9)})
	}
	return l
}

// label makes a claim's name: mostly none, or R and a number; few are alike.
func (r chance) label() string {
	switch r.Intn(4) {
	case 0:
		return "R" + strconv.Itoa(r.Intn(12))
	case 1:
		return string(rune('a' + r.Intn(26)))
	}
	return ""
}

func (r chance) mentions() (l []api.Mention) {
	for range r.Intn(4) {
		l = append(l, api.Mention{Name: r.name(), Line: r.Intn(9), Col: r.Intn(9)})
	}
	return l
}

// text makes what no text need say.
func (r chance) text() api.Text {
	t := api.Text{Max: r.Intn(2) == 0, Name: r.label(), Items: r.items(), Wholes: r.mentions(), Twos: r.mentions()}
	for range r.Intn(8) {
		t.Claims = append(t.Claims, api.Claim{Name: r.label(), Line: r.Intn(99), Col: r.Intn(99), Items: r.items(), Lo: r.bound(), Hi: r.bound()})
	}
	for range r.Intn(8) {
		t.Limits = append(t.Limits, api.Limit{Name: r.name(), SetLo: r.Intn(2) == 0, SetHi: r.Intn(2) == 0, Lo: r.bound(), Hi: r.bound()})
	}
	return t
}

// problem makes a problem by hand, with terms of any places.
func (r chance) problem() api.Problem {
	p := api.Problem{Max: r.Intn(2) == 0, Name: r.label(), Const: r.number()}
	for range r.Intn(4) {
		p.Vars = append(p.Vars, api.Var{Name: r.name(), Obj: r.number(), Lo: r.wide(-1), Hi: r.wide(1), Whole: r.Intn(3) == 0})
	}
	for range r.Intn(4) {
		row := api.Row{Name: r.label(), Lo: r.wide(-1), Hi: r.wide(1)}
		for range r.Intn(7) {
			row.Terms = append(row.Terms, api.Term{Var: r.Intn(len(p.Vars)+4) - 2, Coef: r.number()})
		}
		p.Rows = append(p.Rows, row)
	}
	return p
}

func (r chance) numbers(n int) (l []api.Rat) {
	for range n {
		l = append(l, r.number())
	}
	return l
}

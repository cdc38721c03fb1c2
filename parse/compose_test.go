package parse_test

import (
	"math/big"
	"math/rand"
	"slices"
	"strings"

	"vertex/api"
)

// literals are told with the number that each is, by Num and Den of big.Rat.
var literals = []string{"0", "00", "1", "1", "2", "3", "007", "2.50", ".5", "5.", "1/3", "6/4", "0/9", "1e2", "25E-1", "0.0e7", "18446744073709551616", "12345678901234567890/36893488147419103232", "1e-30", "0.125"}

// names of variables; those of conditions may be words of the language, too, as a colon stands behind them.
var (
	names  = []string{"x", "y", "z", "e1", "E", "x_1", "a.b", "free1", "inff", "(", "{~}", "stx"}
	labels = []string{"c1", "x", "R2", "end", "Free", "ST", "inf", "bounds", "to", "subject", "max", "!"}
)

var (
	word = map[int][]string{
		api.WMax: {"max", "Maximize", "MAXIMISE", "maximum"}, api.WMin: {"min", "MINimize", "minimise", "Minimum"},
		api.WSubject: {"st", "s.t.", "ST.", "subject to", "Such\n\\ so\nTHAT"}, api.WBounds: {"bounds", "Bound"},
		api.WWhole: {"general", "generals", "GEN", "integer", "integers", "int"}, api.WBinary: {"binary", "binaries", "Bin"},
		api.WFree: {"free", "FREE"}, api.WInf: {"inf", "Infinity"}, api.WEnd: {"end", "End"},
	}
	relation = map[int][]string{api.TLess: {"<", "<=", "=<"}, api.TGreater: {">", ">=", "=>"}, api.TEqual: {"="}}
)

// composer writes a text token by token, and what it is to be read as beside it.
type composer struct {
	*rand.Rand
	text strings.Builder
	last string
	want api.Text
	kind map[string]int
}

func (c *composer) pick(l []string) string { return l[c.Intn(len(l))] }

// put writes a token behind a gap of any kind, or behind none, where the two would not run into one another; and gives its place.
func (c *composer) put(token string) (line, col int) {
	const joined = "+-:<=>"
	apart := c.last != "" && !strings.Contains(joined, c.last[len(c.last)-1:]) && !strings.Contains(joined, token[:1])
	number := c.last != "" && strings.Contains(".0123456789", c.last[:1])
	if number && !strings.Contains(".0123456789eE", token[:1]) {
		apart = false
	}
	if apart || c.Intn(3) > 0 {
		c.text.WriteString(gaps[c.Intn(len(gaps))])
	}
	end := endOf(c.text.String())
	c.text.WriteString(token)
	c.last = token
	return end.Line, end.Col
}

func (c *composer) word(w int) (line, col int) { return c.put(c.pick(word[w])) }

// relation writes one of some relations.
func (c *composer) relation(kinds ...int) int {
	kind := kinds[c.Intn(len(kinds))]
	c.put(c.pick(relation[kind]))
	return kind
}

// signs writes signs, at least so many, and gives the place of the first one, if there is one.
func (c *composer) signs(least int) (minus bool, line, col int) {
	for i := range least + max(0, c.Intn(6)-2) {
		sign := c.pick([]string{"+", "-"})
		minus = minus != (sign == "-")
		l, b := c.put(sign)
		if i == 0 {
			line, col = l, b
		}
	}
	return minus, line, col
}

// number writes a number without a sign.
func (c *composer) number() (value *big.Rat, line, col int) {
	text := c.pick(literals)
	value, ok := new(big.Rat).SetString(text)
	if !ok {
		panic("the test's own literal is none: " + text)
	}
	line, col = c.put(text)
	return value, line, col
}

// ratOf tells a number in its one form, 0 less it, if it is to be minus.
func ratOf(r *big.Rat, minus bool) api.Rat {
	limbs := func(n *big.Int) (a api.Nat) {
		for _, w := range new(big.Int).Abs(n).Bits() {
			a = append(a, uint64(w))
		}
		return a
	}
	return api.Rat{Num: api.Int{Neg: minus && r.Sign() > 0, Mag: limbs(r.Num())}, Den: limbs(r.Denom())}
}

// summand writes a summand: with a name, with a number, with both.
func (c *composer) summand(signs int, number, name bool) api.Item {
	item := api.Item{Coef: api.Rat{Num: api.Int{Mag: api.Nat{1}}, Den: api.Nat{1}}}
	minus := false
	if signs >= 0 {
		minus, item.Line, item.Col = c.signs(signs)
	}
	begin := func(line, col int) {
		if item.Line == 0 {
			item.Line, item.Col = line, col
		}
	}
	if number {
		value, line, col := c.number()
		begin(line, col)
		item.Coef = ratOf(value, minus)
	}
	item.Coef.Num.Neg = minus && len(item.Coef.Num.Mag) > 0
	if name {
		item.Name = c.pick(names)
		begin(c.put(item.Name))
	}
	return item
}

// sum writes a sum with a name or without one. How it may begin: at 0 by any summand, at 1 without a sign, at 2 by a number without a sign.
func (c *composer) sum(named bool, begin int) (l []api.Item) {
	n := 1 + c.Intn(3)
	which := c.Intn(n)
	for i := range n {
		name := named && (i == which || c.Intn(2) == 0)
		number := !name || c.Intn(2) == 0 || i == 0 && begin == 2
		signs := min(i, 1)
		if i == 0 && begin > 0 {
			signs = -1
		}
		l = append(l, c.summand(signs, number, name))
	}
	return l
}

// value writes signs and a number, or infinity, as the other side of a relation. Infinity is so told that it shuts nothing out.
func (c *composer) value(endless, minus bool) api.Bound {
	if !endless {
		sign, _, _ := c.signs(0)
		value, _, _ := c.number()
		return api.Bound{Has: true, At: ratOf(value, sign)}
	}
	for sign, _, _ := c.signs(0); sign != minus; sign = !sign {
		c.put("-")
	}
	c.word(api.WInf)
	return api.Bound{}
}

// together is the sum of a list without names, by big.Rat.
func together(l []api.Item) api.Bound {
	sum := new(big.Rat)
	for _, x := range l {
		r := new(big.Rat).SetFrac(bigOf(x.Coef.Num.Mag), bigOf(x.Coef.Den))
		if x.Coef.Num.Neg {
			r.Neg(r)
		}
		sum.Add(sum, r)
	}
	b := api.Bound{Has: true, At: ratOf(sum, false)}
	b.At.Num.Neg = sum.Sign() < 0
	return b
}

func (c *composer) objective() {
	c.want.Max = c.Intn(2) == 0
	if c.want.Max {
		c.word(api.WMax)
	} else {
		c.word(api.WMin)
	}
	if c.Intn(2) == 0 {
		c.want.Name = c.pick(labels)
		c.put(c.want.Name)
		c.put(":")
	}
	if c.Intn(4) > 0 {
		c.want.Items = c.sum(c.Intn(3) > 0, 0)
	}
	c.word(api.WSubject)
}

// claim writes a condition of a form. open tells how the one ahead has ended: at 0 with a number or infinity of its own, at 1 with a sum that ends with a name, at 2 with one that ends with a number.
func (c *composer) claim(form string, open int) (ended int) {
	var claim api.Claim
	if c.Intn(2) == 0 {
		claim.Name = c.pick(labels)
		claim.Line, claim.Col = c.put(claim.Name)
		c.put(":")
		open = 0
	}
	named := form[0] == 'n' || form[0] == 'a' && c.Intn(2) == 0
	first := c.sum(named, open)
	if claim.Line == 0 {
		claim.Line, claim.Col = first[0].Line, first[0].Col
	}
	ended = c.sides(form, &claim, first)
	c.want.Claims = append(c.want.Claims, claim)
	c.kind["claim "+form]++
	return ended
}

// sides writes a condition behind its first side. The forms' letters: n a sum with a name, u one without, a either, d a number, i infinity.
func (c *composer) sides(form string, claim *api.Claim, first []api.Item) (ended int) {
	ending := func(l []api.Item) int {
		if l[len(l)-1].Name != "" {
			return 1
		}
		return 2
	}
	two := []int{api.TLess, api.TGreater}
	switch form {
	case "nd":
		rel := c.relation(api.TLess, api.TGreater, api.TEqual)
		claim.Items = first
		claim.Lo, claim.Hi = ahead(rel, c.value(false, false))
	case "un":
		rel := c.relation(api.TLess, api.TGreater, api.TEqual)
		claim.Items = c.sum(true, 0)
		claim.Lo, claim.Hi = behind(rel, together(first))
		return ending(claim.Items)
	case "uu":
		rel := c.relation(api.TLess, api.TGreater, api.TEqual)
		second := c.sum(false, 0)
		claim.Items = first
		claim.Lo, claim.Hi = ahead(rel, together(second))
		return ending(second)
	case "ai":
		rel := c.relation(two...)
		claim.Items = first
		c.value(true, rel == api.TGreater)
	case "uad", "uai":
		rel := c.relation(two...)
		claim.Items = c.sum(c.Intn(3) > 0, 0)
		c.relation(rel)
		last := c.value(form == "uai", rel == api.TGreater)
		if rel == api.TLess {
			claim.Lo, claim.Hi = together(first), last
		} else {
			claim.Hi, claim.Lo = together(first), last
		}
	}
	return 0
}

// ahead gives the bounds of what stands ahead of a relation, by P6.4's words, behind those of what stands behind it.
func ahead(rel int, c api.Bound) (lo, hi api.Bound) {
	switch rel {
	case api.TLess:
		return lo, c
	case api.TGreater:
		return c, hi
	}
	return c, c
}

func behind(rel int, c api.Bound) (lo, hi api.Bound) {
	switch rel {
	case api.TLess:
		return c, hi
	case api.TGreater:
		return lo, c
	}
	return c, c
}

// limit writes a limit of a form: x the name, v a value, f free.
func (c *composer) limit(form string) {
	name := func() (l api.Limit) {
		l.Name = c.pick(names)
		l.Line, l.Col = c.put(l.Name)
		return l
	}
	endless := c.Intn(3) == 0
	kinds := []int{api.TLess, api.TGreater}
	if !endless && form != "vxv" {
		kinds = append(kinds, api.TEqual)
	}
	var l api.Limit
	switch form {
	case "xf":
		l = name()
		c.word(api.WFree)
		l.SetLo, l.SetHi = true, true
	case "xv":
		l = name()
		rel := c.relation(kinds...)
		l.Lo, l.Hi = ahead(rel, c.value(endless, rel == api.TGreater))
		l.SetLo, l.SetHi = rel != api.TLess, rel != api.TGreater
	case "vx", "vxv":
		rel := kinds[c.Intn(len(kinds))]
		first := c.value(endless, rel == api.TLess)
		c.relation(rel)
		l = name()
		l.Lo, l.Hi = behind(rel, first)
		l.SetLo, l.SetHi = rel != api.TGreater, rel != api.TLess
		if form == "vxv" {
			c.relation(rel)
			last := c.value(c.Intn(3) == 0, rel == api.TGreater)
			if rel == api.TLess {
				l.Hi = last
			} else {
				l.Lo = last
			}
			l.SetLo, l.SetHi = true, true
		}
	}
	c.want.Limits = append(c.want.Limits, l)
	c.kind["limit "+form]++
}

// mention writes a name of a list.
func (c *composer) mention() api.Mention {
	name := c.pick(names)
	line, col := c.put(name)
	return api.Mention{Name: name, Line: line, Col: col}
}

func (c *composer) section(w int) {
	c.word(w)
	for range c.Intn(4) {
		switch w {
		case api.WBounds:
			c.limit(c.pick([]string{"xf", "xv", "vx", "vxv"}))
		case api.WFree:
			m := c.mention()
			c.want.Limits = append(c.want.Limits, api.Limit{Name: m.Name, Line: m.Line, Col: m.Col, SetLo: true, SetHi: true})
		case api.WWhole:
			c.want.Wholes = append(c.want.Wholes, c.mention())
		case api.WBinary:
			c.want.Twos = append(c.want.Twos, c.mention())
		}
	}
}

// compose writes a text of all that may stand in one, and what it is to be read as.
func compose(r *rand.Rand, kind map[string]int) (string, api.Text) {
	c := &composer{Rand: r, kind: kind}
	c.objective()
	open := 0
	for range c.Intn(6) {
		open = c.claim(c.pick([]string{"nd", "un", "uu", "ai", "uad", "uai"}), open)
	}
	for range c.Intn(6) {
		c.section([]int{api.WBounds, api.WFree, api.WWhole, api.WBinary}[c.Intn(4)])
	}
	c.word(api.WEnd)
	c.text.WriteString(c.pick(slices.Concat(gaps, []string{"", "\\ nothing"})))
	return c.text.String(), c.want
}

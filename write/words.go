package write

import (
	"strings"

	"vertex/api"
	"vertex/rat"
)

// sign gives a number's sign, `+` for nought too.
func sign(a api.Rat) string {
	if rat.Sign(a) < 0 {
		return "-"
	}
	return "+"
}

// word tells a number without its sign.
func word(a api.Rat) string { return rat.Text(rat.Abs(a)) }

// signed tells a number as a summand: always with a sign.
func signed(a api.Rat) string { return sign(a) + " " + word(a) }

// plain tells a number as a bound: with a sign only below nought.
func plain(a api.Rat) string {
	if rat.Sign(a) < 0 {
		return signed(a)
	}
	return word(a)
}

// sum tells the sum of terms of the variables, which is never an empty text, as a side of a row has to have a summand.
func sum(terms []api.Term, vars []api.Var) string {
	if len(terms) == 0 {
		return "+ 0"
	}
	var words []string
	for _, term := range terms {
		words = append(words, signed(term.Coef), vars[term.Var].Name)
	}
	return strings.Join(words, " ")
}

// claim tells a sum with its bounds: P8.2, 4.
func claim(sum string, lo, hi api.Bound) string {
	switch {
	case lo.Has:
		return fromLo(sum, lo, hi)
	case hi.Has:
		return sum + " <= " + plain(hi.At)
	}
	return sum + " >= - inf"
}

// limit tells a variable with its bounds: P8.2, 5. One that has no Lo has to be told so, as it would have 0 else.
func limit(name string, lo, hi api.Bound) string {
	switch {
	case lo.Has:
		return fromLo(name, lo, hi)
	case hi.Has:
		return "- inf <= " + name + " <= " + plain(hi.At)
	}
	return name + " free"
}

// fromLo tells what has a Lo, a sum or a variable, with its bounds.
func fromLo(what string, lo, hi api.Bound) string {
	switch {
	case !hi.Has:
		return what + " >= " + plain(lo.At)
	case rat.Cmp(lo.At, hi.At) == 0:
		return what + " = " + plain(lo.At)
	}
	return plain(lo.At) + " <= " + what + " <= " + plain(hi.At)
}

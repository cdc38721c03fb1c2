package parse_test

import (
	"testing"

	"vertex/api"
)

// P6.5: a name and a number, with the relations either way round, by all signs of them.
func TestLimitsOfOneSide(t *testing.T) {
	for _, r := range []string{"<", "<=", "=<"} {
		says(t, "min st bounds x "+r+" -2 end", "min : | limit x hi -2")
		says(t, "min st bounds - 1/2 "+r+" x end", "min : | limit x lo -1/2")
	}
	for _, r := range []string{">", ">=", "=>"} {
		says(t, "min st bounds x "+r+" -2 end", "min : | limit x lo -2")
		says(t, "min st bounds - 1/2 "+r+" x end", "min : | limit x hi -1/2")
	}
	says(t, "min st bounds x = 6/4 end", "min : | limit x lo 3/2 hi 3/2")
	says(t, "min st bounds 6/4 = x end", "min : | limit x lo 3/2 hi 3/2")
}

// P6.5: three sides.
func TestLimitsOfTwoSides(t *testing.T) {
	says(t, "min st bounds 1 <= x <= 2 end", "min : | limit x lo 1 hi 2")
	says(t, "min st bounds 1 >= x >= 2 end", "min : | limit x lo 2 hi 1")
	says(t, "min st bounds -- 1 =< x < - 2 end", "min : | limit x lo 1 hi -2")
	says(t, "min st bounds + 1 > x => + 2 end", "min : | limit x lo 2 hi 1")
	rels := []string{"<=", ">=", "="}
	for _, first := range rels {
		for _, second := range rels {
			failsAt(t, "min st bounds x "+first+" 3 ^"+second+" 4 end", api.ErrDue)
			if first == second && first != "=" {
				says(t, "min st bounds 4 "+first+" x "+second+" 4 end", "min : | limit x lo 4 hi 4")
				failsAt(t, "min st bounds 4 "+first+" x "+second+" 4 ^"+second+" 4 end", api.ErrDue)
				continue
			}
			for _, behind := range []string{" 3 end", " y end", " inf end", " - inf end", "", " " + second} {
				failsAt(t, "min st bounds 4 "+first+" x ^"+second+behind, api.ErrSigns)
			}
		}
	}
}

// P6.5: names that are free, by a limit and by a section, among the other limits in the text's order.
func TestFreeNames(t *testing.T) {
	const free = " lo none hi none"
	says(t, "min st bounds x free end", "min : | limit x"+free)
	says(t, "min st free x y x end", "min : | limit x"+free+" | limit y"+free+" | limit x"+free)
	says(t, "min st bounds x free y <= 3 FREE z u bounds v free 1 <= w free free a end", "min : | limit x"+free+" | limit y hi 3 | limit z"+free+" | limit u"+free+" | limit v"+free+" | limit w lo 1 | limit a"+free)
	// Free belongs to a limit only where its name alone stands ahead of it.
	says(t, "min st bounds x free free y end", "min : | limit x"+free+" | limit y"+free)
	says(t, "min st bounds 5 >= v free u end", "min : | limit v hi 5 | limit u"+free)
	says(t, "min st bounds 5 >= v >= 4 free u end", "min : | limit v lo 4 hi 5 | limit u"+free)
	says(t, "min st bounds v >= 4 free u end", "min : | limit v lo 4 | limit u"+free)
	says(t, "min st bounds free bounds end", "min :")
	says(t, "min st general v free u free w end", "min : | limit u"+free+" | limit w"+free+" | whole v")
	for _, s := range []string{"min st bounds x ^y free end", "min st bounds x free ^< 3 end", "min st free x ^3 end", "min st bounds 3 <= ^free end", "min st bounds x <= ^free end", "min st bounds 3 ^free end", "min st bounds - ^free end"} {
		failsAt(t, s, api.ErrDue)
	}
}

// P6.5: the place of a limit is its name's.
func TestPlacesOfLimits(t *testing.T) {
	saysAt(t, "min st\nbounds\n x <= 3\n- 3 <=\n  y\n  <= 4 z\nfree - inf < u free\n w\n v end", "min : | limit x@3:2 hi 3 | limit y@5:3 lo -3 hi 4 | limit z@6:8 lo none hi none | limit u@7:14 lo none | limit w@8:2 lo none hi none | limit v@9:2 lo none hi none")
}

// P6.5: infinity as a limit's value, ahead of the name and behind it, with each relation and each sign.
func TestInfinityAsALimit(t *testing.T) {
	for _, plus := range []string{"", "+", "- -", "+ - + -"} {
		says(t, "min st bounds x <= "+plus+" inf end", "min : | limit x hi none")
		says(t, "min st bounds "+plus+" Infinity >= x end", "min : | limit x hi none")
		says(t, "min st bounds 1 <= x <= "+plus+" inf end", "min : | limit x lo 1 hi none")
		says(t, "min st bounds "+plus+" inf >= x >= 1 end", "min : | limit x lo 1 hi none")
		for _, s := range []string{"x >= " + plus + " ^inf", "x = " + plus + " ^inf", plus + " ^inf <= x", plus + " ^inf = x", "1 >= x >= " + plus + " ^inf", plus + " ^inf <= x <= 3", plus + " ^inf = x = 3", plus + " ^inf <= x >= 3", plus + " ^inf < x < y"} {
			failsAt(t, "min st bounds "+s+" end", api.ErrDue)
		}
	}
	for _, minus := range []string{"-", "+ -", "- - -"} {
		says(t, "min st bounds x >= "+minus+" inf end", "min : | limit x lo none")
		says(t, "min st bounds "+minus+" Infinity <= x end", "min : | limit x lo none")
		says(t, "min st bounds 1 >= x >= "+minus+" inf end", "min : | limit x lo none hi 1")
		says(t, "min st bounds "+minus+" inf <= x <= 1 end", "min : | limit x lo none hi 1")
		for _, s := range []string{"x <= " + minus + " ^inf", "x = " + minus + " ^inf", minus + " ^inf >= x", minus + " ^inf = x", "1 <= x <= " + minus + " ^inf", minus + " ^inf >= x >= 3", minus + " ^inf = x <= 3", minus + " ^inf >= x = 3"} {
			failsAt(t, "min st bounds "+s+" end", api.ErrDue)
		}
	}
	says(t, "min st bounds - inf <= x <= inf inf >= y >= - inf end", "min : | limit x lo none hi none | limit y lo none hi none")
}

// P6.5: an infinity ahead of a name is looked at once the name has been read, and ahead of what follows.
func TestWhenInfinityIsLookedAt(t *testing.T) {
	for _, s := range []string{"inf <= ^3 end", "inf <= ^inf end", "inf = ^end", "- inf >= ^<= x end", "inf ^x end", "inf ^inf end", "inf <=^", "inf <= ^+ x end", "inf <= ^: end"} {
		failsAt(t, "min st bounds "+s, api.ErrDue)
	}
	for _, s := range []string{"^inf <= x", "^inf <= x end", "^inf <= x = 3 end", "^inf <= x < y end", "- ^inf >= x < end", "^inf = x : end", "^inf <= x <= - inf end", "- - ^inf <= x max"} {
		failsAt(t, "min st bounds "+s, api.ErrDue)
	}
	// A relation that goes with none is at fault ahead of the infinity behind it.
	failsAt(t, "min st bounds inf >= x ^<= - inf end", api.ErrSigns)
	failsAt(t, "min st bounds 3 = x ^= inf end", api.ErrSigns)
	failsAt(t, "min st bounds inf >= x >= ^inf end", api.ErrDue)
}

// P6.5: what is no limit; names on both sides are no more than out of place here.
func TestWrongLimits(t *testing.T) {
	for _, s := range []string{"2 ^x <= 3", "x <= ^y", "x <= - ^y", "1 <= x <= ^y", "1 <= ^2", "1 <= ^2 x", "1 <= ^- x", "b^: x <= 3", "- ^x <= 3", "x ^3", "x ^x <= 3", "x ^+ y <= 3", "x ^end", "^<= 3", "x ^free : 3", "x <= 3 ^: 3", "3 ^end", "3 <= ^end", "x <= ^end", "x <= - ^end", "x <= 3 + ^x", "x <= 3 4 ^5", "^max x", "x <= ^max", "x ^bounds y", "x <= 1/2 y ^end", "1 <= x <= 2 ^<= 3", "- 3 ^+ 3 <= x", "x <= 3 - 3 ^int x"} {
		failsAt(t, "min st bounds "+s+" end", api.ErrDue)
	}
}

package parse_test

import (
	"testing"

	"vertex/api"
)

// P6.4: two sides, with the relations either way round and by all signs of them, a name on either side.
func TestTwoSides(t *testing.T) {
	for _, r := range []string{"<", "<=", "=<"} {
		says(t, "min st x - 2 y "+r+" 4 end", "min : | claim : 1*x -2*y from none to 4")
		says(t, "min st 4 "+r+" x - 2 y end", "min : | claim : 1*x -2*y from 4 to none")
		says(t, "min st 1 + 2 "+r+" 4 - 1/2 end", "min : | claim : 1 2 from none to 7/2")
	}
	for _, r := range []string{">", ">=", "=>"} {
		says(t, "min st x - 2 y "+r+" 4 end", "min : | claim : 1*x -2*y from 4 to none")
		says(t, "min st 4 "+r+" x - 2 y end", "min : | claim : 1*x -2*y from none to 4")
		says(t, "min st 1 + 2 "+r+" 4 - 1/2 end", "min : | claim : 1 2 from 7/2 to none")
	}
	says(t, "min st x - 2 y = 4 end", "min : | claim : 1*x -2*y from 4 to 4")
	says(t, "min st 4 = x - 2 y end", "min : | claim : 1*x -2*y from 4 to 4")
	says(t, "min st 1 + 2 = 4 - 1/2 end", "min : | claim : 1 2 from 7/2 to 7/2")
}

// P6.4: a side has a name, if one of its summands has, with whatever coefficient; numbers beside it are summands, too.
func TestSidesWithNames(t *testing.T) {
	says(t, "min st 3 + 0 x - 4 <= 4 end", "min : | claim : 3 0*x -4 from none to 4")
	says(t, "min st 4 + 1 - 2 >= 3 - x end", "min : | claim : 3 -1*x from none to 3")
	says(t, "min st x - x = 0 end", "min : | claim : 1*x -1*x from 0 to 0")
	says(t, "min st -1 - 2 - - 3 >= 0 x + 5 end", "min : | claim : 0*x 5 from none to 0")
	says(t, "min st 1 + x <= 3 2 + x <= 4 end", "min : | claim : 1 1*x from none to 3 | claim : 2 1*x from none to 4")
}

// P6.4: three sides, the relations either way round; the middle one may be a number, too.
func TestThreeSides(t *testing.T) {
	says(t, "min st 1 <= x <= 2 end", "min : | claim : 1*x from 1 to 2")
	says(t, "min st 1 >= x >= 2 end", "min : | claim : 1*x from 2 to 1")
	says(t, "min st 1 + 2 =< x + 4 < - - 5 end", "min : | claim : 1*x 4 from 3 to 5")
	says(t, "min st - 1 > x + 4 => -5 end", "min : | claim : 1*x 4 from -5 to -1")
	says(t, "min st 1 <= 2 <= 3 end", "min : | claim : 2 from 1 to 3")
	says(t, "min st 3 >= 2 + 2 - 2 >= 1 end", "min : | claim : 2 2 -2 from 1 to 3")
	says(t, "min st 3 <= x <= 3 end", "min : | claim : 1*x from 3 to 3")
}

// Of the last sides only a sum goes on: behind a number the next condition begins, by signs, a number, a name or a name with a colon.
func TestConditionsOneBehindTheOther(t *testing.T) {
	saysAt(t, "min st x <= 3 - y <= 4 z = 5\n6 >= u 7 w >= -8 + 1 <= v end", "min : | claim @1:8: 1*x@1:8 from none to 3 | claim @1:15: -1*y@1:15 from none to 4 | claim @1:24: 1*z@1:24 from 5 to 5 | claim @2:1: 1*u@2:6 from none to 6 | claim @2:8: 7*w@2:8 from -8 to none | claim @2:18: 1*v@2:25 from 1 to none")
	says(t, "min st 1 <= x <= 2 y <= 3 end", "min : | claim : 1*x from 1 to 2 | claim : 1*y from none to 3")
	says(t, "min st 1 <= x <= 2 - y <= 3 end", "min : | claim : 1*x from 1 to 2 | claim : -1*y from none to 3")
	says(t, "min st 1 <= x <= 2 3 <= y end", "min : | claim : 1*x from 1 to 2 | claim : 1*y from 3 to none")
	says(t, "min st 1 <= x y <= 3 end", "min : | claim : 1*x from 1 to none | claim : 1*y from none to 3")
	says(t, "min st 1 <= x 2 y <= 3 end", "min : | claim : 1*x from 1 to none | claim : 2*y from none to 3")
	says(t, "min st 1 <= x - y c: - z <= 3 end", "min : | claim : 1*x -1*y from 1 to none | claim c: -1*z from none to 3")
	says(t, "min st 1 <= 2 2 >= 1 end", "min : | claim : 1 from none to 2 | claim : 2 from 1 to none")
	failsAt(t, "min st 1 <= x - y ^= 3 end", api.ErrSigns)
	failsAt(t, "min st 1 <= 2 x ^= 3 end", api.ErrSigns)
	failsAt(t, "min st x <= 2 y ^end", api.ErrDue)
	failsAt(t, "min st x <= 2 + ^end", api.ErrDue)
}

// P6.4: names and places of conditions; a condition begins with its name, or else with its first side's signs.
func TestNamesOfConditions(t *testing.T) {
	saysAt(t, "min\nst\n c1 : x >= 1\n\tend:\n x >= 2\n- +\n3 x >= 1\n x: x = 1 end", "min : | claim c1@3:2: 1*x@3:7 from 1 to none | claim end@4:2: 1*x@5:2 from 2 to none | claim @6:1: -3*x@6:1 from 1 to none | claim x@8:2: 1*x@8:5 from 1 to 1")
	says(t, "min st a: x >= 1 a: x >= 2 end", "min : | claim a: 1*x from 1 to none | claim a: 1*x from 2 to none")
}

// P6.3, P6.4: infinity as the last side, with each relation and each sign; the condition ends with it.
func TestInfinityAsASide(t *testing.T) {
	for _, sides := range []struct{ ahead, item, lo, hi string }{{"x + 1", "1*x 1", "none", "none"}, {"2 - 3", "2 -3", "none", "none"}, {"c: x", "1*x", "none", "none"}} {
		name := ""
		if sides.ahead[0] == 'c' {
			name = "c"
		}
		want := "min : | claim " + name + ": " + sides.item + " from none to none"
		for _, plus := range []string{"", "+", "- -", "+ - + -"} {
			says(t, "min st "+sides.ahead+" <= "+plus+" inf end", want)
			says(t, "min st "+sides.ahead+" < "+plus+" Infinity end", want)
			failsAt(t, "min st "+sides.ahead+" >= "+plus+" ^inf end", api.ErrDue)
			failsAt(t, "min st "+sides.ahead+" = "+plus+" ^inf end", api.ErrDue)
		}
		for _, minus := range []string{"-", "+ -", "- - -"} {
			says(t, "min st "+sides.ahead+" >= "+minus+" inf end", want)
			says(t, "min st "+sides.ahead+" => "+minus+" INFINITY end", want)
			failsAt(t, "min st "+sides.ahead+" <= "+minus+" ^inf end", api.ErrDue)
			failsAt(t, "min st "+sides.ahead+" = "+minus+" ^inf end", api.ErrDue)
		}
	}
	says(t, "min st 1 <= x <= inf end", "min : | claim : 1*x from 1 to none")
	says(t, "min st 1 + 1 >= x >= - inf end", "min : | claim : 1*x from none to 2")
	says(t, "min st 1 <= 2 <= inf end", "min : | claim : 2 from 1 to none")
	says(t, "min st x <= inf y <= inf - z >= -inf 0 <= inf 1 <= u end", "min : | claim : 1*x from none to none | claim : 1*y from none to none | claim : -1*z from none to none | claim : 0 from none to none | claim : 1*u from 1 to none")
	for _, s := range []string{"min st 1 <= x <= - ^inf end", "min st 1 >= x >= ^inf end", "min st x <= inf ^<= 3 end", "min st 0 <= inf ^>= 3 end", "min st 1 <= x <= inf ^<= inf end", "min st x >= - inf ^= 3 end", "min st ^inf <= inf end", "min st x <= 3 ^inf end", "min st x <= inf ^inf end", "min st 1 <= x + ^inf end"} {
		failsAt(t, s, api.ErrDue)
	}
}

// P6.3: a name where a number is due.
func TestNamesOnBothSides(t *testing.T) {
	for _, s := range []string{"min st x <= ^y end", "min st x = + - + ^y end", "min st 2 x + 3 >= ^x end", "min st c: x <=\n ^d: y <= 3 end", "min st 1 <= x <= ^y end", "min st 1 >= x >= - ^x <= 3", "min st 1 <= 2 <= - - ^x end", "min st 0 x <= ^y", "min st x <= ^y <= z", "min st x <= ^y <= <="} {
		failsAt(t, s, api.ErrSides)
	}
	// Behind signs without a number something else is due.
	for _, s := range []string{"min st x <= - ^<= 3 end", "min st x <= ^: 3 end", "min st x <= ^= 3 end", "min st x <= ^free end", "min st x <= + ^end", "min st 1 <= x <= ^end", "min st 1 <= x <= - ^max end", "min st 1 <= x <= ^< 3 end"} {
		failsAt(t, s, api.ErrDue)
	}
}

// P6.3: a second relation, behind a side with a name and behind one without; whatever follows it.
func TestSecondRelations(t *testing.T) {
	rels := []string{"<=", ">=", "="}
	for _, first := range rels {
		for _, second := range rels {
			failsAt(t, "min st x + 1 "+first+" 3 ^"+second+" 4 end", api.ErrSides)
			failsAt(t, "min st 1 + 0 x "+first+" 3 ^"+second+" y end", api.ErrSides)
			failsAt(t, "min st c: 2 x "+first+" - 3 ^"+second, api.ErrSides)
			if first == second && first != "=" {
				says(t, "min st 4 "+first+" x "+second+" 4 end", "min : | claim : 1*x from 4 to 4")
				failsAt(t, "min st 4 "+first+" x "+second+" 4 ^"+second+" 4 end", api.ErrDue)
				continue
			}
			for _, sum := range []string{"x", "2", "2 - x", "y - 2"} {
				failsAt(t, "min st 4 + 1 "+first+" "+sum+" ^"+second+" 4 end", api.ErrSigns)
				failsAt(t, "min st c: 4 "+first+" "+sum+" ^"+second+" x end", api.ErrSigns)
				failsAt(t, "min st - 4 "+first+" "+sum+"\n^"+second+" "+second, api.ErrSigns)
			}
		}
	}
	// Those that are told by other signs are alike.
	says(t, "min st 1 < x =< 2 end", "min : | claim : 1*x from 1 to 2")
	says(t, "min st 2 => x > 1 end", "min : | claim : 1*x from 1 to 2")
}

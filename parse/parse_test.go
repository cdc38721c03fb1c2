package parse_test

import (
	"strings"
	"testing"

	"vertex/api"
)

// The chapter's examples of what texts say.
func TestExamples(t *testing.T) {
	saysAt(t, "max 3x + 2 y - 5\n st\n c1: x + y <= 4\n - x >= -7\n end", "max : 3*x@1:5 2*y@1:8 -5@1:14 | claim c1@3:2: 1*x@3:6 1*y@3:8 from none to 4 | claim @4:2: -1*x@4:2 from -7 to none")
	says(t, "min cost: st end", "min cost:")
	says(t, "min st 1 <= x - - y + 2 <= 9  3 >= z  2 x = 1/2 end", "min : | claim : 1*x 1*y 2 from 1 to 9 | claim : 1*z from none to 3 | claim : 2*x from 1/2 to 1/2")
	says(t, "min st 0 <= 1 \n x <= 3 end", "min : | claim : 1*x from 0 to 3")
	says(t, "min st 2 + 1 >= 1 end", "min : | claim : 2 1 from 1 to none")
	says(t, "min st x + y >= -inf 0 <= inf 3 >= z >= - inf end", "min : | claim : 1*x 1*y from none to none | claim : 0 from none to none | claim : 1*z from none to 3")
	says(t, "min st bounds x free -inf <= y <= 4 z >= 2 w = 3 5 >= v free u end", "min : | limit x lo none hi none | limit y lo none hi 4 | limit z lo 2 | limit w lo 3 hi 3 | limit v hi 5 | limit u lo none hi none")
	says(t, "min st general a b binary c int d end", "min : | whole a | whole b | whole d | two c")
}

// The chapter's examples of faults.
func TestExamplesOfFaults(t *testing.T) {
	for _, s := range []string{"^", "^x", "max x^", "max x ^end", "min 3 ^4 x st end", "min st x ^end", "min st x <= ^end", "min st x <= 4^",
		"min st 1 <= x <= 2 ^<= 3 end", "min st bounds 2 ^x <= 3 end", "min st bounds x >= ^inf end", "min st bounds x <= 1 ^<= 2 end",
		"min st end ^end", "min st x >= ^inf end", "min st x = -^inf end", "min st x <= inf ^<= 3 end", "min st ^inf >= x end",
		"min st bounds inf <= ^3 end", "min st bounds ^inf <= x < y end"} {
		failsAt(t, s, api.ErrDue)
	}
	for _, s := range []string{"min st x <= ^y end", "min st x <= - ^y end", "min st x <= 3 ^<= 5 end", "min st 1 <= 2 <= ^x end"} {
		failsAt(t, s, api.ErrSides)
	}
	for _, s := range []string{"min st 1 <= x ^>= 0 end", "min st 1 = x ^= 1 end"} {
		failsAt(t, s, api.ErrSigns)
	}
	failsAt(t, "min st x <= 4 \n 3 ^.", api.ErrNumber)
}

// P6.1: the faults of lex.Scan, each at its place, ahead of those of what stands ahead of them.
func TestFaultsOfTokens(t *testing.T) {
	for _, x := range []struct {
		text string
		err  error
	}{{"min st x ^* y end", api.ErrChar}, {"min 1.5^/2 st end", api.ErrChar}, {"min st\n^1/00 x <= 3 end", api.ErrDivide}, {"x\n\n st ^1e10000", api.ErrExponent}, {"min st end end x = x\n^.", api.ErrNumber}, {"^\xff", api.ErrChar}, {"< ^\x00", api.ErrChar}} {
		failsAt(t, x.text, x.err)
	}
}

// P6.1: the end's place is that behind the last byte, whatever gap stands there.
func TestTheEnd(t *testing.T) {
	for _, s := range []string{"^", " ^", "\n^", "\n\n \t^", "\r^", "\\ nothing^", "\\ nothing\n^", "min^", "min \\ st end^", "min\n^", "min x\nst\r\n  ^", "min st\n x <= 4 \\ end\n\\ end^", "max\nst\nbounds\n 3 <=\n\n^", "min st int\nx\r\n\r^", "min st x <= -\n +^", "min st 1 <= x <=^"} {
		failsAt(t, s, api.ErrDue)
	}
	says(t, "min st end \\ nothing", "min :")
	says(t, "\n\\ nothing\nmin st end\n\n", "min :")
}

// P6.1: nothing but a word that begins a section, or the end, stands where one is due; and nothing stands behind the end.
func TestWhatStandsWhere(t *testing.T) {
	for _, s := range []string{"^st min end", "^end", "^min: x st end", "^: min st end", "^3", "^+", "^<", "min ^min st end", "min x ^max st end", "min ^bounds st end", "^min : st end", "min x ^< 3 st end",
		"min st ^st end", "min st ^max end", "min st ^min x st end", "min st x <= 3 ^st end", "min st : x ^<= 3 end", "min st x <= 3 ^: y <= 3 end", "min st ^<= 3 end",
		"min st int x ^3 end", "min st int ^- x end", "min st int x ^: y end", "min st bin ^3 end", "min st free x ^<= 3 end", "min st free ^inf end", "min st int ^inf end", "min st bin x ^max end", "min st int x ^st end", "min st bounds ^st end", "min st bounds x free ^min end",
		"min st int c^: x <= 3 end", "min st end ^x", "min st end : x ^end", "min st bounds end ^bounds end", "min st x <= 3 end ^3"} {
		failsAt(t, s, api.ErrDue)
	}
}

// P6.2: the sense, by all words of it.
func TestSense(t *testing.T) {
	for _, s := range []string{"max", "Max", "MAXIMIZE", "maximise", "maximum"} {
		says(t, s+" x st end", "max : 1*x")
	}
	for _, s := range []string{"min", "Min", "MINIMIZE", "minimise", "minimum"} {
		says(t, s+" x st end", "min : 1*x")
	}
}

// P6.2: an objective with a name and without one, with summands and without any.
func TestObjective(t *testing.T) {
	says(t, "max st end", "max :")
	says(t, "max z: st end", "max z:")
	saysAt(t, "max z : x st end", "max z: 1*x@1:9")
	saysAt(t, "min\n\tx + 1\n- 2/4 y\nsubject to end", "min : 1*x@2:2 1@2:4 -1/2*y@3:1")
	says(t, "min z st z: z <= 3 end", "min : 1*z | claim z: 1*z from none to 3")
	says(t, "max 0 st end", "max : 0")
	says(t, "max x + x - x st end", "max : 1*x 1*x -1*x")
	says(t, "max end: end1 st. end", "max end: 1*end1")
	// A word with a colon behind it is a name.
	says(t, "min min: x such that end", "min min: 1*x")
	says(t, "min st: st end", "min st:")
	failsAt(t, "min a: b^: st end", api.ErrDue)
	failsAt(t, "min a ^b: st end", api.ErrDue)
	failsAt(t, "min 3 ^b: st end", api.ErrDue)
	failsAt(t, "min x + y^: st end", api.ErrDue)
	failsAt(t, "min - y^: st end", api.ErrDue)
	failsAt(t, "min ^inf st end", api.ErrDue)
	failsAt(t, "min x + ^st end", api.ErrDue)
	failsAt(t, "min - ^inf st end", api.ErrDue)
	failsAt(t, "min z: + + ^: st end", api.ErrDue)
}

// P6.6: names of whole and binary variables, each list in order, with their places, whatever stands between their sections.
func TestMentions(t *testing.T) {
	saysAt(t, "min st\nint x\n y\nbin z x\ngeneral\nbinaries\nfree u\ninteger x z\nbounds x <= 3\nbinary y\nend", "min : | limit u@7:6 lo none hi none | limit x@9:8 hi 3 | whole x@2:5 | whole y@3:2 | whole x@8:9 | whole z@8:11 | two z@4:5 | two x@4:7 | two y@10:8")
	for _, s := range []string{"general", "generals", "gen", "integer", "integers", "INT"} {
		says(t, "min st "+s+" a end", "min : | whole a")
	}
	for _, s := range []string{"binary", "binaries", "BIN"} {
		says(t, "min st "+s+" a end", "min : | two a")
	}
	says(t, "min st int bin gen free bounds bound end", "min :")
}

// Sections stand in any order, each as often as one likes, and conditions ahead of them alone.
func TestSectionsInAnyOrder(t *testing.T) {
	parts := []string{"bounds x <= 1 ", "int x ", "bin x ", "free x "}
	says1 := []string{" | limit x hi 1", "", "", " | limit x lo none hi none"}
	for i := range 4 * 4 * 4 * 4 {
		text, limits, wholes, twos := "min st x >= 0 ", "", "", ""
		for k := i; k > 0; k /= 4 {
			text += parts[k%4]
			limits += says1[k%4]
			wholes += strings.Repeat(" | whole x", strings.Count(parts[k%4], "int"))
			twos += strings.Repeat(" | two x", strings.Count(parts[k%4], "bin"))
		}
		says(t, text+"end", "min : | claim : 1*x from 0 to none"+limits+wholes+twos)
		if i > 0 {
			failsAt(t, text+"^st end", api.ErrDue)
		}
	}
	failsAt(t, "min st int x y ^>= 3 end", api.ErrDue)
	failsAt(t, "min st bin x c^: y >= 3 end", api.ErrDue)
}

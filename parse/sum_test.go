package parse_test

import (
	"strconv"
	"strings"
	"testing"

	"vertex/api"
	"vertex/parse"
)

// Signs of any number, one behind the other, are minus, if there is an odd number of minus among them; a summand begins with the first of them.
func TestSigns(t *testing.T) {
	for n := range 8 {
		for which := range 1 << n {
			signs, want := "", ""
			for i := range n {
				signs += []string{"+", "-"}[which>>i&1] + []string{"", " ", "\\ -\n"}[(i+which)%3]
			}
			if strings.Count(strings.ReplaceAll(signs, "\\ -", ""), "-")%2 == 1 {
				want = "-"
			}
			says(t, "min "+signs+"x st end", "min : "+want+"1*x")
			says(t, "min "+signs+"5 st end", "min : "+want+"5")
			says(t, "min "+signs+"1/2 x st end", "min : "+want+"1/2*x")
			says(t, "min "+signs+"0x st end", "min : 0*x")
			says(t, "min st c: 7 <= "+signs+"x end", "min : | claim c: "+want+"1*x from 7 to none")
			says(t, "min st x <= "+signs+"3 end", "min : | claim : 1*x from none to "+want+"3")
			says(t, "min st bounds x <= "+signs+"3 end", "min : | limit x hi "+want+"3")
			says(t, "min st bounds "+signs+"3 <= x end", "min : | limit x lo "+want+"3")
			if n > 0 {
				says(t, "min 2 y"+signs+"x st end", "min : 2*y "+want+"1*x")
			}
		}
	}
	saysAt(t, "min -\n- + \n x\n + \n- 3 y st end", "min : 1*x@1:5 -3*y@4:2")
}

// A number and a name that stand one behind the other are one summand, unless a colon stands behind the name.
func TestNumbersAndNames(t *testing.T) {
	says(t, "min 3x + 3 x - 3\n\\ so\nx st end", "min : 3*x 3*x -3*x")
	says(t, "min 3 + x st end", "min : 3 1*x")
	says(t, "min 2e5 + 2 e5 - 3e + 1/3x st end", "min : 200000 2*e5 -3*e 1/3*x")
	says(t, "min st 1 <= 2 x <= 3 end", "min : | claim : 2*x from 1 to 3")
	says(t, "min st 1 <= 2 x: x <= 3 end", "min : | claim : 1 from none to 2 | claim x: 1*x from none to 3")
	says(t, "min st 1 <= 2 + 4 x : 5 x <= 3 end", "min : | claim : 1 from none to 6 | claim x: 5*x from none to 3")
	says(t, "min st 1 <= 2 free: free1 <= 3 end", "min : | claim : 1 from none to 2 | claim free: 1*free1 from none to 3")
	says(t, "min st 1 <= 2 subject to: y <= 3 end", "min : | claim : 2*subject from 1 to none | claim to: 1*y from none to 3")
	says(t, "min st 1 <= 2 \\ a remark\n x \\ another :\n : x <= 3 end", "min : | claim : 1 from none to 2 | claim x: 1*x from none to 3")
	for _, s := range []string{"min 3 ^c: x st end", "min x + 3 ^c: x st end", "min st 3 ^c: x <= 4 end", "min st x + 3 ^c: x <= 4 end", "min st a: 3 ^c: x <= 4 end",
		"min st 3 ^x: x <= 4 end", "min st 1 <= x^: x <= 4 end", "min st 1 <= 2 + x^: x <= 4 end", "min st a: b^: x <= 4 end", "min st - b^: x <= 4 end", "min st x + b^: x <= 4 end"} {
		failsAt(t, s, api.ErrDue)
	}
	failsAt(t, "min st x <= ^c: y <= 3 end", api.ErrSides)
	failsAt(t, "min st 1 <= x <= ^c: y <= 3 end", api.ErrSides)
}

// All but the first summand have one sign at least; a sum goes on as long as a sign follows.
func TestSums(t *testing.T) {
	for _, s := range []string{"min x ^y st end", "min x ^2 y st end", "min 2 ^3 st end", "min 2 x ^y st end", "min st x ^y <= 3 end", "min st x ^2 <= 3 end", "min st 2 ^2 <= 3 end", "min x + + ^st end",
		"min st x + ^<= 3 end", "min st - ^<= 3 end", "min st + ^end", "min st 1 <= + ^end", "min st 1 <= 2 + ^<= 3 end", "min st 1 <= 2 - ^inf end", "min st x - ^inf <= 3 end", "min st - ^inf <= x end", "min st c: ^inf >= x end", "min st c: ^end", "min st c: ^= 3 end"} {
		failsAt(t, s, api.ErrDue)
	}
	var text, want strings.Builder
	for i := range 3000 {
		text.WriteString(" - " + strconv.Itoa(i) + " x" + strconv.Itoa(i))
		want.WriteString(" " + strings.Replace("-"+strconv.Itoa(i), "-0", "0", 1) + "*x" + strconv.Itoa(i))
	}
	says(t, "min"+text.String()+" st end", "min :"+want.String())
}

// R1: how many signs, conditions and names there are doesn't matter.
func TestLongTexts(t *testing.T) {
	const n = 100000
	minus := strings.Repeat("-", n+1)
	says(t, "min "+minus+"x st 1 <= "+minus+"inf1 <= "+minus+"3 bounds "+minus+" inf <= x end", "min : -1*x | claim : -1*inf1 from 1 to -3 | limit x lo none")
	failsAt(t, "min st 1 <= "+minus+"^inf end", api.ErrDue)
	failsAt(t, "min st x <= "+minus+"^x end", api.ErrSides)
	failsAt(t, "min "+minus+"^", api.ErrDue)
	got, err := parse.Parse("min st " + strings.Repeat("x <= 3 ", n) + "int" + strings.Repeat(" x", n) + " bounds " + strings.Repeat("x free ", n) + "end")
	if err != nil || len(got.Claims) != n || len(got.Wholes) != n || len(got.Limits) != n {
		t.Errorf("%d claims, %d names, %d limits, %v", len(got.Claims), len(got.Wholes), len(got.Limits), err)
	}
}

// P6.7: numbers are in the one form, however they are told.
func TestNumbersInTheOneForm(t *testing.T) {
	for literal, want := range map[string]string{"0": "0", "-0": "0", "0/5": "0", "- 0.000e9": "0", "6/4": "3/2", "-6/4": "-3/2", "2.50": "5/2", "007": "7", "18446744073709551616": "18446744073709551616", "1e-2": "1/100", "+-+12/8": "-3/2", "00/18446744073709551616": "0", "36893488147419103232/2": "18446744073709551616"} {
		s := "min " + literal + "x + " + literal + " st c: " + literal + " = y bounds " + literal + " <= x <= " + literal + " end"
		got, err := parse.Parse(s)
		if w := "min : " + want + "*x " + want + " | claim c: 1*y from " + want + " to " + want + " | limit x lo " + want + " hi " + want; err != nil || told(got) != w {
			t.Errorf("Parse(%q): %s, %v, want %s", s, told(got), err, w)
		}
		for _, a := range numbers(got) {
			if !inForm(a) {
				t.Errorf("Parse(%q): %v isn't in the one form", s, a)
			}
		}
	}
	says(t, "min st 1/2 + 1/3 - 5/6 <= x end", "min : | claim : 1*x from 0 to none")
	says(t, "min st 1 + 1/3 + 1/6 = x + 1/2 - 1/2 end", "min : | claim : 1*x 1/2 -1/2 from 3/2 to 3/2")
}

package solve_test

import (
	"fmt"
	"maps"
	"slices"
	"testing"

	"vertex/api"
	"vertex/back"
	"vertex/check"
	"vertex/model"
	"vertex/mps"
	"vertex/solve"
	"vertex/write"
)

// answersAs asks that a text has the answer of the second telling, never with the code 3, and tells of what kind it is.
func answersAs(t *testing.T, text string) string {
	t.Helper()
	got, want := solved(text), secondly(text)
	if got != want || got.code == 3 {
		t.Fatalf("Solve(%q):\n%q, %d, want\n%q, %d", text, got.text, got.code, want.text, want.code)
	}
	return kindOf(got)
}

// P19.1 to P19.4: texts of all kinds have the answers of the promises' words, and the check never refuses.
func TestTexts(t *testing.T) {
	r := chances(19)
	count := map[string]int{}
	for k := range 15000 {
		text := r.text(k%3 == 0)
		if k%4 == 0 {
			text = r.spoilt(text)
		}
		count[answersAs(t, text)]++
	}
	enough(t, 100, count, "optimal", "infeasible", "unbounded", "whole optimal", "whole infeasible")
	enough(t, 20, count, "whole unbounded", api.ErrOpen.Error(), api.ErrTwice.Error(), api.ErrDue.Error(), api.ErrSides.Error(), api.ErrChar.Error(), api.ErrExponent.Error(), api.ErrDivide.Error())
	enough(t, 5, count, api.ErrSigns.Error(), api.ErrNumber.Error())
}

// P19.5, P19.7, T2: what is printed of a problem without whole variables is read as the certificate that it tells, and the checker accepts that.
func TestPrintedAnswersAreRead(t *testing.T) {
	r := chances(195)
	count := map[string]int{}
	for range 4000 {
		text := r.text(false)
		p, err := model.Read(text)
		if err != nil {
			continue
		}
		out, code := solve.Solve([]byte(text))
		c, err := solve.Read(p, out)
		if err != nil || code != 0 || told(c) != told(back.Solve(p)) {
			t.Fatalf("%q: Read(%q) = %s, %v, want %s", text, out, told(c), err, told(back.Solve(p)))
		}
		if err := check.Check(p, c); err != nil {
			t.Fatalf("%q: %s: %v", text, out, err)
		}
		count[verdictOf(c.Verdict)]++
	}
	enough(t, 200, count, "optimal", "infeasible", "unbounded")
}

// What follows: a text, and what write.Write and mps.Write make of its problem, have the same answer.
func TestOtherTextsOfOneProblem(t *testing.T) {
	r := chances(198)
	count := map[string]int{}
	for k := range 3000 {
		text := r.text(k%2 == 0)
		p, err := model.Read(text)
		if err != nil {
			continue
		}
		want := solved(text)
		count[kindOf(want)]++
		// A name that is a word of the language may stand ahead of a colon, but isn't written.
		if other, err := write.Write(p); err == nil {
			count["written"]++
			if got := solved(other); got != want {
				t.Fatalf("%q: %q, but %q: %q", text, want.text, other, got.text)
			}
		}
		other, err := mps.Write(p)
		if err != nil {
			t.Fatalf("%q: %v", text, err)
		}
		if got := solvedMps(other); got != want {
			t.Fatalf("%q: %q, but %q: %q", text, want.text, other, got.text)
		}
	}
	enough(t, 2000, count, "written")
	enough(t, 50, count, "optimal", "infeasible", "unbounded", "whole optimal", "whole infeasible")
}

// P19.4, P19.6: problems in the MPS format, of names that the other format doesn't know, and texts that are off.
func TestMpsTexts(t *testing.T) {
	r := chances(196)
	count := map[string]int{}
	for k := range 9000 {
		next := 0
		name := func() string {
			next++
			return r.oneOf("x -y 3 <= \xff ' <var row= 1/2") + fmt.Sprint(next)
		}
		p := r.problem(name, r.Intn(5), r.Intn(4))
		for j := range p.Vars {
			p.Vars[j].Whole = k%2 == 0 && p.Vars[j].Lo.Has && p.Vars[j].Hi.Has || r.often(60)
		}
		text, err := mps.Write(p)
		if err != nil {
			t.Fatal(err)
		}
		if k%4 == 0 {
			text = r.spoilt(text)
		}
		got, want := solvedMps(text), secondlyMps(text)
		if got != want || got.code == 3 {
			t.Fatalf("SolveMps(%q):\n%q, %d, want\n%q, %d", text, got.text, got.code, want.text, want.code)
		}
		count[kindOf(got)]++
	}
	enough(t, 100, count, "optimal", "infeasible", "unbounded", "whole optimal", "whole infeasible")
	enough(t, 10, count, "whole unbounded", api.ErrOpen.Error(), api.ErrSection.Error(), api.ErrField.Error(), api.ErrName.Error(), api.ErrNumber.Error())
	enough(t, 3, count, api.ErrDivide.Error(), api.ErrExponent.Error())
}

// P19.7: whatever a problem's names are, and whatever an answer says of it, true or not: it is read as the promise's words say, and so is what is made of it by a small change.
func TestAnswersByHand(t *testing.T) {
	r := chances(197)
	count := map[string]int{}
	for k := range 2500 {
		p := r.problem(r.anyName, r.Intn(4), r.Intn(4))
		if k%50 == 0 && len(p.Vars) > 0 {
			p.Vars[r.Intn(len(p.Vars))].Whole = true
		}
		second := secondReader(p)
		out := certText(p, r.cert(p))
		for range 8 {
			c, isAnswer := second(out)
			if !isAnswer {
				refuses(t, p, out)
				count["none"]++
			} else {
				reads(t, p, out, told(c))
				count[verdictOf(c.Verdict)]++
				count["check: "+fmt.Sprint(check.Check(p, c))]++
			}
			out = r.retouched(certText(p, r.cert(p)))
		}
	}
	enough(t, 500, count, "none", "optimal", "infeasible", "unbounded")
	enough(t, 10, count, "check: <nil>", "check: "+api.ErrPoint.Error(), "check: "+api.ErrValue.Error(), "check: "+api.ErrBound.Error(), "check: "+api.ErrRay.Error())
}

// P19.7: each answer that is one byte away from a right one: one byte less, one more, another one.
func TestOneByteAway(t *testing.T) {
	var others []byte
	for b := range 256 {
		others = append(others, byte(b))
	}
	for _, text := range []string{example, "min x st x >= 1 -x >= 0 end", "max x + 1/2 y st x - y = -2/7 end", "min 10 st c: -1 <= 0 end", "min st end"} {
		p := problem(text)
		second := secondReader(p)
		right := solved(text).text
		count := 0
		asks := func(out string) {
			t.Helper()
			if c, isAnswer := second(out); isAnswer {
				count++
				reads(t, p, out, told(c))
			} else {
				refuses(t, p, out)
			}
		}
		for at := range len(right) + 1 {
			asks(right[:at])
			for _, b := range others {
				asks(right[:at] + string([]byte{b}) + right[at:])
			}
			if at == len(right) {
				break
			}
			asks(right[:at] + right[at+1:])
			for _, b := range others {
				asks(right[:at] + string([]byte{b}) + right[at+1:])
			}
		}
		if count < 10 && len(p.Vars) > 0 {
			t.Errorf("%q: only %d answers", text, count)
		}
	}
}

// P19.5, R4: the answer hangs on the bytes alone: asked again, with others between, and in another order.
func TestAskedAgain(t *testing.T) {
	r := chances(191)
	first := map[string]outcome{}
	var texts []string
	for k := range 300 {
		text := r.text(k%2 == 0)
		texts = append(texts, text)
		first[text] = solved(text)
	}
	for _, text := range slices.Backward(texts) {
		if got := solved(text); got != first[text] {
			t.Errorf("%q: %q, and then %q", text, first[text].text, got.text)
		}
	}
	for text := range maps.Keys(first) {
		if got := solved(text); got != first[text] {
			t.Errorf("%q: %q, and then %q", text, first[text].text, got.text)
		}
	}
}

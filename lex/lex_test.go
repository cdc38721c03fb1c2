package lex_test

import (
	"iter"
	"slices"
	"strings"
	"testing"

	"vertex/api"
	"vertex/lex"
)

// P5.3: the chapter's examples.
func TestScan(t *testing.T) {
	scansAt(t, "Max 3x+ 2 y\n s.t. c1: x=>4",
		at(1, 1, word(api.WMax, "Max")), at(1, 5, number("3", 3, 1)), at(1, 6, name("x")), at(1, 7, sign(api.TPlus, "+")), at(1, 9, number("2", 2, 1)), at(1, 11, name("y")),
		at(2, 2, word(api.WSubject, "s.t.")), at(2, 7, name("c1")), at(2, 9, sign(api.TColon, ":")), at(2, 11, name("x")), at(2, 12, sign(api.TGreater, "=>")), at(2, 14, number("4", 4, 1)))
	scansAt(t, "subject \\ so\n to st: to 1",
		at(1, 1, word(api.WSubject, "subject \\ so\n to")), at(2, 5, name("st")), at(2, 7, sign(api.TColon, ":")), at(2, 9, name("to")), at(2, 12, number("1", 1, 1)))
	scans(t, "such to: that", name("such"), name("to"), sign(api.TColon, ":"), name("that"))
	scans(t, "2e5 2 e5 3e 1/3x 5..5", number("2e5", 200000, 1), number("2", 2, 1), name("e5"), number("3", 3, 1), name("e"), number("1/3", 1, 3), name("x"), number("5.", 5, 1), number(".5", 1, 2))
	scans(t, "")
	scans(t, " \\ nothing")
}

// P5.3: gaps ahead of, between and behind tokens, of blanks and of remarks, one that the text's end ends among them.
func TestGaps(t *testing.T) {
	for _, g := range gaps {
		scans(t, g)
		scans(t, g+"x"+g, name("x"))
		scans(t, g+"x"+g+"y"+g, name("x"), name("y"))
		scans(t, g+"1"+g+"2"+g+"<"+g+"="+g, number("1", 1, 1), number("2", 2, 1), sign(api.TLess, "<"), sign(api.TEqual, "="))
		for _, end := range []string{`\`, `\ x`, `\ x \ y`, "\\ x\r", "\\\x00\xff*."} {
			scans(t, g+end)
			scans(t, "x"+end, name("x"))
			scans(t, "x"+g+end, name("x"))
		}
	}
	// A remark goes on up to a byte 0A, not up to another blank.
	scans(t, "x\\ y\rz\tu v\\w\nq", name("x"), name("q"))
	scans(t, "3\\4\n5", number("3", 3, 1), number("5", 5, 1))
	scans(t, "<\\\n=", sign(api.TLess, "<"), sign(api.TEqual, "="))
	// Other bytes that show nothing are no blanks.
	for _, s := range []string{"\v", "\f", "\x00", "\x85", "\xa0", "\u00a0", "\u2028", "\ufeff"} {
		fails(t, "x "+s+"y", 1, 3, api.ErrChar, name("x"))
	}
}

// P5.3: tokens need nothing between them, where the one can't go on.
func TestTokensSideBySide(t *testing.T) {
	scans(t, "3x", number("3", 3, 1), name("x"))
	scans(t, "2max", number("2", 2, 1), word(api.WMax, "max"))
	scans(t, "1st.c", number("1", 1, 1), name("st.c"))
	scans(t, "1st.:", number("1", 1, 1), name("st."), sign(api.TColon, ":"))
	scans(t, "x+-y:z", name("x"), sign(api.TPlus, "+"), sign(api.TMinus, "-"), name("y"), sign(api.TColon, ":"), name("z"))
	scans(t, "-3", sign(api.TMinus, "-"), number("3", 3, 1))
	scans(t, "x3.5", name("x3.5"))
	scans(t, "4-5", number("4", 4, 1), sign(api.TMinus, "-"), number("5", 5, 1))
}

// P5.7: lines and places behind each kind of gap; a line ends behind a byte 0A and behind no other.
func TestPlaces(t *testing.T) {
	for _, x := range []struct {
		gap       string
		line, col int
	}{
		{"", 1, 3}, {" ", 1, 4}, {"\t", 1, 4}, {"\r", 1, 4}, {"   \t", 1, 7}, {"\n", 2, 1}, {"\r\n", 2, 1}, {"\n\r", 2, 2}, {"\n\n\n", 4, 1}, {" \n ", 2, 2},
		{"\\\n", 2, 1}, {"\\ a remark\n", 2, 1}, {"\\ a remark\r\n", 2, 1}, {"\\\\\n \\ another\n\t ", 3, 3}, {"\\\u00e9\v\n", 2, 1}, {"\n\\ x\n\n  ", 4, 3},
	} {
		scansAt(t, ">="+x.gap+"y", at(1, 1, sign(api.TGreater, ">=")), at(x.line, x.col, name("y")))
		scansAt(t, ">="+x.gap+"<=7", at(1, 1, sign(api.TGreater, ">=")), at(x.line, x.col, sign(api.TLess, "<=")), at(x.line, x.col+2, number("7", 7, 1)))
		fails(t, ">="+x.gap+"*", x.line, x.col, api.ErrChar, sign(api.TGreater, ">="))
		fails(t, ">="+x.gap+". ", x.line, x.col, api.ErrNumber, sign(api.TGreater, ">="))
		fails(t, ">="+x.gap+"2/0", x.line, x.col, api.ErrDivide, sign(api.TGreater, ">="))
		fails(t, ">="+x.gap+"2e10000", x.line, x.col, api.ErrExponent, sign(api.TGreater, ">="))
	}
	// Behind a pair whose gap has line ends, and where one isn't read as a pair.
	scansAt(t, "such\n\\ so\n that x", at(1, 1, word(api.WSubject, "such\n\\ so\n that")), at(3, 7, name("x")))
	scansAt(t, "such\n\\ so\n that : x", at(1, 1, name("such")), at(3, 2, name("that")), at(3, 7, sign(api.TColon, ":")), at(3, 9, name("x")))
	// A place counts bytes, so one beyond those of a remark that are no runes.
	scansAt(t, "\\\xff\xfe\n\n  x", at(3, 3, name("x")))
}

// P5.7: the chapter's faults, and all bytes that begin nothing.
func TestFaults(t *testing.T) {
	fails(t, "x . y", 1, 3, api.ErrNumber, name("x"))
	fails(t, "a\n 1/00", 2, 2, api.ErrDivide, name("a"))
	fails(t, "1e99999", 1, 1, api.ErrExponent)
	fails(t, "1.5/2", 1, 4, api.ErrChar, number("1.5", 3, 2))
	fails(t, "x*y", 1, 2, api.ErrChar, name("x"))
	begins := nameBytes + "+-:<=> \t\n\r\\"
	count := 0
	for c := range 256 {
		b := string([]byte{byte(c)})
		if strings.Contains(begins, b) {
			continue
		}
		count++
		fails(t, b, 1, 1, api.ErrChar)
		fails(t, "x"+b+"y", 1, 2, api.ErrChar, name("x"))
		fails(t, "x\n 3 "+b, 2, 4, api.ErrChar, name("x"), number("3", 3, 1))
		// Of several faults the first.
		fails(t, b+" . 1/0", 1, 1, api.ErrChar)
		fails(t, ". "+b, 1, 1, api.ErrNumber)
	}
	if count != 256-len(begins) || count < 150 {
		t.Errorf("%d bytes begin nothing", count)
	}
	fails(t, "max \xc3\xa9", 1, 5, api.ErrChar, word(api.WMax, "max"))
	fails(t, "a b c [", 1, 7, api.ErrChar, name("a"), name("b"), name("c"))
}

// P5.8: All gives what Scan gives, as far as there is no fault, and is never nil.
func TestAll(t *testing.T) {
	for _, s := range []string{"", " ", "\\", ".", "*", "x", "x .", "max 3 x st c: x <= 4 end", "x y * z", "such that: such that x"} {
		all := lex.All(s)
		if all == nil {
			t.Fatalf("All(%q) is nil", s)
		}
		want, _ := tokensOf(s)
		for range 3 {
			if got := slices.Collect(all); !slices.EqualFunc(got, want, same) {
				t.Errorf("All(%q): %v, want %v", s, got, want)
			}
		}
	}
}

// P5.8: it may be left early, at each token, and gone through again from the beginning.
func TestAllLeftEarly(t *testing.T) {
	const s = "max 3 x\n st c: x <= 4 end *"
	all := lex.All(s)
	want, _ := tokensOf(s)
	for n := range len(want) + 1 {
		var got []api.Token
		for k := range all {
			if len(got) == n {
				break
			}
			got = append(got, k)
		}
		if !slices.EqualFunc(got, want[:n], same) {
			t.Errorf("All left ahead of token %d: %v", n, got)
		}
		calls := 0
		all(func(api.Token) bool {
			calls++
			return calls <= n
		})
		if calls != min(n+1, len(want)) {
			t.Errorf("All goes on with token %d behind token %d", calls, n)
		}
	}
}

// P5.8, R4: two that go through one of them at once, or one within the other, know nothing of one another.
func TestAllSideBySide(t *testing.T) {
	const s = "a b\n1/2 such that <= d"
	all := lex.All(s)
	want, _ := tokensOf(s)
	next, stop := iter.Pull(all)
	defer stop()
	i := 0
	for k := range all {
		other, ok := next()
		if !ok || !same(k, want[i]) || !same(other, want[i]) {
			t.Errorf("token %d: %v and %v", i, k, other)
		}
		if got := slices.Collect(all); !slices.EqualFunc(got, want, same) {
			t.Errorf("within token %d: %v", i, got)
		}
		i++
	}
	if _, ok := next(); ok || i != len(want) {
		t.Errorf("%d tokens, want %d", i, len(want))
	}
}

package whole_test

import (
	"strings"
	"testing"

	"vertex/api"
	"vertex/whole"
)

// P2.7
func TestParse(t *testing.T) {
	for s, want := range map[string]api.Int{
		"0": above(), "+0": above(), "-0": above(), "-000": above(), "+00": above(),
		"7": above(7), "+7": above(7), "-7": below(7), "-007": below(7), "+007": above(7), "12": above(12),
		"9223372036854775807": above(half - 1), "-9223372036854775808": below(half),
		"18446744073709551616": above(0, 1), "-18446744073709551616": below(0, 1),
		"-340282366920938463426481119284349108225": dec(t, "-340282366920938463426481119284349108225"),
		"-" + strings.Repeat("0", 500) + "3":       below(3),
		"+" + strings.Repeat("9", 700):             dec(t, strings.Repeat("9", 700)),
	} {
		a, err := whole.Parse(s)
		is(t, s, a, want)
		if err != nil {
			t.Errorf("Parse(%q): %v", s, err)
		}
	}
}

// P2.7
func TestParseRefuses(t *testing.T) {
	for _, s := range []string{
		"", "-", "+", "--1", "++1", "+-1", "-+1", "1-", "1+", "1 ", " 1", "- 1", "+ 1", "1 2", "-1 ", " -1", " ",
		"1_0", "-1_0", "0x1", "-0x1", "1.", "1.0", "1e3", "1/2", "a", "-a", "1a", "\x00", "1\x00", "-\n", "1\n", "−1", "１", "-٣", "\xff",
		"-" + strings.Repeat("1", 300) + "x",
	} {
		a, err := whole.Parse(s)
		isZero(t, s, a)
		if err != api.ErrNumber {
			t.Errorf("Parse(%q): %v", s, err)
		}
	}
}

// P2.7: of the texts of one byte and of two bytes just those with digits behind a sign, or none, are numbers.
func TestParseOfAllShortTexts(t *testing.T) {
	digit := func(c int) bool { return '0' <= c && c <= '9' }
	for c := range 256 {
		_, err := whole.Parse(string([]byte{byte(c)}))
		if digit(c) != (err == nil) {
			t.Errorf("Parse of the byte %d: %v", c, err)
		}
		for d := range 256 {
			_, err := whole.Parse(string([]byte{byte(c), byte(d)}))
			if ok := digit(d) && (digit(c) || c == '+' || c == '-'); ok != (err == nil) {
				t.Errorf("Parse of the bytes %d %d: %v", c, d, err)
			}
		}
	}
}

// P2.7
func TestText(t *testing.T) {
	for _, x := range []struct {
		a    api.Int
		want string
	}{
		{above(), "0"}, {below(), "0"}, {below(0, 0), "0"},
		{above(7), "7"}, {below(7), "-7"}, {below(7, 0), "-7"}, {above(10), "10"},
		{below(half), "-9223372036854775808"}, {below(0, 1), "-18446744073709551616"},
	} {
		if s := whole.Text(x.a); s != x.want {
			t.Errorf("Text(%v): %q, want %q", x.a, s, x.want)
		}
	}
	for a := range pairs {
		if s := whole.Text(a); s != toBig(a).String() {
			t.Fatalf("Text(%v): %q", a, s)
		}
	}
}

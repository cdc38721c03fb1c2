package rat_test

import (
	"math/big"
	"regexp"
	"strconv"
	"strings"
	"testing"

	"vertex/api"
	"vertex/rat"
)

func reads(t *testing.T, s string, want api.Rat) {
	t.Helper()
	a, err := rat.Parse(s)
	is(t, "Parse("+strconv.Quote(s)+")", a, want)
	if err != nil {
		t.Errorf("Parse(%q): %v", s, err)
	}
}

func refuses(t *testing.T, s string, want error) {
	t.Helper()
	a, err := rat.Parse(s)
	fails(t, "Parse("+strconv.Quote(s)+")", a, err, want)
}

func one(num, den string) api.Rat {
	n, _ := new(big.Int).SetString(num, 10)
	d, _ := new(big.Int).SetString(den, 10)
	return fromBig(new(big.Rat).SetFrac(n, d))
}

func noughts(n int) string { return strings.Repeat("0", n) }

// P3.10: decimals without an exponent.
func TestParseDecimals(t *testing.T) {
	for s, want := range map[string]api.Rat{
		"12": one("12", "1"), "-0.50": one("-1", "2"), ".5": one("1", "2"), "5.": one("5", "1"), "+5": one("5", "1"), "-5": one("-5", "1"), "-.5": one("-1", "2"), "+.5": one("1", "2"), "-5.": one("-5", "1"),
		"0": one("0", "1"), "-0": one("0", "1"), "+0": one("0", "1"), ".0": one("0", "1"), "0.": one("0", "1"), "-0.000": one("0", "1"), "000": one("0", "1"),
		"007": one("7", "1"), "1.25": one("5", "4"), "001.250": one("5", "4"), "12.345": one("2469", "200"), "3.000": one("3", "1"), ".001": one("1", "1000"), "-10.10": one("-101", "10"),
		"18446744073709551616": one("18446744073709551616", "1"), "-1844674407370955.1616": one("-18446744073709551616", "10000"),
	} {
		reads(t, s, want)
	}
}

// P3.10: decimals with an exponent.
func TestParseExponents(t *testing.T) {
	for s, want := range map[string]api.Rat{
		"+1e-2": one("1", "100"), "1e2": one("100", "1"), "1E2": one("100", "1"), "1e+2": one("100", "1"), "1E-2": one("1", "100"), "1.25E+2": one("125", "1"), "1.25e1": one("25", "2"), "1.25e3": one("1250", "1"),
		".5e1": one("5", "1"), "5.e1": one("50", "1"), "5.e-1": one("1", "2"), "-.5e0": one("-1", "2"), "7e0": one("7", "1"), "7e-0": one("7", "1"), "7e+0": one("7", "1"), "7e007": one("70000000", "1"), "-7e-007": one("-7", "10000000"),
		"0e9999": one("0", "1"), "0e-9999": one("0", "1"), "-0e5": one("0", "1"), "1000e-3": one("1", "1"), "0.001e3": one("1", "1"), "12e-1": one("6", "5"),
		"3e20": one("300000000000000000000", "1"), "3e-20": one("3", "100000000000000000000"),
	} {
		reads(t, s, want)
	}
}

// P3.10: the bound of the exponent, of either sign, and one more.
func TestParseAtTheBound(t *testing.T) {
	great := one("1"+noughts(9999), "1")
	for _, s := range []string{"1e9999", "1e00009999", "1e+9999", "1E+09999", "0.1e" + noughts(400) + "9999"} {
		want := great
		if s[1] == '.' {
			want = one("1"+noughts(9998), "1")
		}
		reads(t, s, want)
	}
	reads(t, "-1e-9999", one("-1", "1"+noughts(9999)))
	reads(t, "1e-0009999", one("1", "1"+noughts(9999)))
	reads(t, "1e9998", one("1"+noughts(9998), "1"))
	for _, s := range []string{"1e10000", "0e-10000", "0e10000", "-1e-10000", "1E+10000", "1e0010000", ".0e10000", "5.e-99999", "1e99999999999999999999", "1e-9223372036854775808", "1e18446744073709551617", "1e" + strings.Repeat("9", 3000)} {
		refuses(t, s, api.ErrExponent)
	}
}

// P3.10: quotients.
func TestParseQuotients(t *testing.T) {
	for s, want := range map[string]api.Rat{
		"6/4": one("3", "2"), "-1/3": one("-1", "3"), "+1/3": one("1", "3"), "8/4": one("2", "1"), "0/5": one("0", "1"), "-0/5": one("0", "1"), "006/004": one("3", "2"), "1/1": one("1", "1"), "-12/1": one("-12", "1"),
		"18446744073709551616/36893488147419103232": one("1", "2"), "1/18446744073709551617": one("1", "18446744073709551617"), "0/0001": one("0", "1"),
	} {
		reads(t, s, want)
	}
	for _, s := range []string{"1/0", "0/00", "0/0", "-1/0", "+7/0000", "0/" + noughts(300)} {
		refuses(t, s, api.ErrDivide)
	}
}

// P3.10: no literal; and that comes ahead of an exponent above the bound and of a Den of nought.
func TestParseRefuses(t *testing.T) {
	for _, s := range []string{
		"", ".", "1e", "1.2/3", "1/2e3", "1/-2", " 1", "+-1",
		"+", "-", "-.", "+.", "--1", "++1", "-+1", "1-", "1+", "1 ", "1 2", "- 1", "1\n", "\t1", "1..2", "1.2.3", "..1", "1.-2", ".-5", ".+5", "-.-5", "1.+2", "-.+", "5.-",
		"e", "e5", "E5", ".e5", "-e5", "+.e5", "1e+", "1e-", "1E", "1e+-5", "1e--5", "1e5.", "1e.5", "1e5.0", "1e 5", "1e5e5", "1ee5", "1e5E", "1e5-", "1eE", "e", "1e1/2",
		"/", "/2", "1/", "-/2", "+/2", "1//2", "1/2/3", "1/+2", "1/ 2", "1 /2", "1/.5", ".5/2", "1./2", "1/2.", "1/2.0", "1e2/3", "-1/-2", "--1/2",
		"1e10000x", "x1e10000", "1e10000/0", "1.2.3e10000", ".e10000", "1e10000.", "1e10000e1", "1.-2e10000", "x/0", "1.5/0", "1/0x", "1/0.", "1/-0", "/0", "1/0/0", "1e5/0",
		"0x1", "1_0", "1,5", "1d5", "inf", "Inf", "nan", "NaN", "infinity", "1f", "1p5", "0b1", "0x1p-2", "1e0x5", "a", "\x00", "1\x00", "\xff", "1\xff", "−1", "１", "٣", "1e٣", "½", "1⁄2", "1·5",
		strings.Repeat("1", 300) + "x", strings.Repeat("1", 300) + "." + strings.Repeat("1", 300) + ".", "1/" + strings.Repeat("1", 300) + "-",
	} {
		refuses(t, s, api.ErrNumber)
	}
}

// P3.10: how many digits there are doesn't matter.
func TestParseLongOnes(t *testing.T) {
	reads(t, noughts(5000)+"7", one("7", "1"))
	reads(t, "-"+strings.Repeat("7", 5000), one("-"+strings.Repeat("7", 5000), "1"))
	reads(t, "."+strings.Repeat("3", 5000), one(strings.Repeat("3", 5000), "1"+noughts(5000)))
	reads(t, strings.Repeat("6", 2000)+"/"+strings.Repeat("4", 2000), one("3", "2"))
	// More noughts than the greatest power that nat tells has.
	reads(t, "0."+noughts(39999)+"1", one("1", "1"+noughts(40000)))
	reads(t, "0."+noughts(39999)+"1e-9999", one("1", "1"+noughts(49999)))
	reads(t, "0."+noughts(39999)+"1e9999", one("1", "1"+noughts(30001)))
	reads(t, "1."+noughts(40000), one("1", "1"))
	reads(t, "3"+noughts(40000)+"e9999", one("3"+noughts(49999), "1"))
}

// literal says the chapter's words in other words; its groups are the sign, the digits ahead of the point and behind it (or the latter alone), the exponent, and the two of a quotient.
const literal = `^([+-]?)(?:(?:([0-9]+)\.?([0-9]*)|\.([0-9]+))(?:[eE]([+-]?[0-9]+))?|([0-9]+)/([0-9]+))$`

func readSlowly(t *testing.T, m []string) (*big.Rat, error) {
	t.Helper()
	number := func(s string) *big.Int {
		n, ok := new(big.Int).SetString(s, 10)
		if !ok {
			t.Fatalf("the test's own %q is no number", s)
		}
		return n
	}
	if m[6] != "" {
		if number(m[7]).Sign() == 0 {
			return nil, api.ErrDivide
		}
		return new(big.Rat).SetFrac(number(m[1]+m[6]), number(m[7])), nil
	}
	behind := m[3] + m[4]
	n := new(big.Rat).SetInt(number(m[1] + m[2] + behind))
	exponent := int64(-len(behind))
	if m[5] != "" {
		e := number(m[5])
		if new(big.Int).Abs(e).Cmp(big.NewInt(api.MaxExponent)) > 0 {
			return nil, api.ErrExponent
		}
		exponent += e.Int64()
	}
	tens := new(big.Rat).SetInt(new(big.Int).Exp(big.NewInt(10), big.NewInt(max(exponent, -exponent)), nil))
	if exponent < 0 {
		return n.Quo(n, tens), nil
	}
	return n.Mul(n, tens), nil
}

// P3.10: every text of at most six of these bytes.
func TestParseAllShortTexts(t *testing.T) {
	shape := regexp.MustCompile(literal)
	literals := 0
	var try func(s string)
	try = func(s string) {
		a, err := rat.Parse(s)
		if m := shape.FindStringSubmatch(s); m == nil {
			if err != api.ErrNumber {
				t.Fatalf("Parse(%q): %v, %v, but it is no literal", s, a, err)
			}
		} else if n, no := readSlowly(t, m); err != no || err == nil && !same(a, fromBig(n)) {
			t.Fatalf("Parse(%q): %v, %v, want %v, %v", s, a, err, n, no)
		} else {
			literals++
		}
		if len(s) < 6 {
			for _, c := range []string{"0", "5", "+", "-", ".", "e", "E", "/"} {
				try(s + c)
			}
		}
	}
	try("")
	if literals < 3000 {
		t.Errorf("only %d literals", literals)
	}
}

// P3.10: every text of one byte or two, and every byte in the midst of each kind of literal.
func TestParseAllBytes(t *testing.T) {
	shape := regexp.MustCompile(literal)
	try := func(s string) {
		if _, err := rat.Parse(s); shape.MatchString(s) == (err == api.ErrNumber) {
			t.Errorf("Parse(%q): %v", s, err)
		}
	}
	for c := range 256 {
		for _, around := range [][2]string{{"", ""}, {"1", "2"}, {"1.", "2"}, {"-", "1"}, {"1/", "2"}, {"1", "/2"}, {"1e", "2"}, {"1", "e2"}, {"1/2", ""}, {"1e2", ""}, {"1.2", ""}} {
			try(around[0] + string([]byte{byte(c)}) + around[1])
		}
		for d := range 256 {
			try(string([]byte{byte(c), byte(d)}))
		}
	}
}

// P3.11
func TestText(t *testing.T) {
	for _, x := range []struct {
		a    api.Rat
		want string
	}{
		{by(6, 4), "3/2"}, {by(-6, 4), "-3/2"}, {by(-8, 2), "-4"}, {by(0, 0), "0"}, {api.Rat{}, "0"}, {by(0, 7), "0"}, {by(5, 0), "0"}, {by(-5, 0), "0"}, {limbs(true, nil, api.Nat{3}), "0"}, {limbs(true, api.Nat{0, 0}, api.Nat{3}), "0"},
		{by(1, 1), "1"}, {by(-1, 1), "-1"}, {by(10, 1), "10"}, {by(1, 10), "1/10"}, {by(-100, 30), "-10/3"}, {limbs(false, api.Nat{8, 0}, api.Nat{12, 0, 0}), "2/3"},
		{limbs(true, api.Nat{0, 1}, api.Nat{1, 1}), "-18446744073709551616/18446744073709551617"},
	} {
		if s := rat.Text(x.a); s != x.want {
			t.Errorf("Text(%v): %q, want %q", x.a, s, x.want)
		}
	}
	for a := range pairs {
		if s := rat.Text(a); s != toBig(a).RatString() {
			t.Fatalf("Text(%v): %q", a, s)
		}
	}
}

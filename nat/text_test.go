package nat_test

import (
	"math/big"
	"slices"
	"strings"
	"testing"

	"vertex/api"
	"vertex/nat"
)

// P1.10
func TestParse(t *testing.T) {
	for s, want := range map[string]api.Nat{
		"0":                    nil,
		"000":                  nil,
		"7":                    {7},
		"007":                  {7},
		"9999999999999999999":  {9999999999999999999},
		"10000000000000000000": {10000000000000000000},
		"18446744073709551615": {top},
		"18446744073709551616": {0, 1},
		"340282366920938463463374607431768211456":  {0, 0, 1},
		"0340282366920938463463374607431768211455": {top, top},
		strings.Repeat("0", 100000) + "12":         {12},
		strings.Repeat("0", 100000):                nil,
	} {
		a, err := nat.Parse(s)
		works(t, "Parse("+s[:min(len(s), 50)]+")", a, err, want)
	}
	for n := 1; n < 80; n++ {
		for _, s := range []string{strings.Repeat("9", n), "1" + strings.Repeat("0", n), strings.Repeat("1", n), strings.Repeat("0123456789", n)} {
			a, err := nat.Parse(s)
			works(t, "Parse", a, err, dec(t, s))
		}
	}
	s := strings.Repeat("31415926535897932384626433832795", 1000)
	a, err := nat.Parse(s)
	works(t, "Parse of many digits", a, err, dec(t, s))
}

// P1.10
func TestParseErrors(t *testing.T) {
	for _, s := range []string{
		"", "+1", "-1", "-0", "1 ", " 1", " ", "1e2", "1.", ".5", "1/2", "0x10", "1_000", "a", "1a", "\x00", "1\n", "/", ":", "1:",
		"١٢", "1٢", "１", "\xff", strings.Repeat("1", 5000) + "x", "x" + strings.Repeat("1", 5000),
	} {
		a, err := nat.Parse(s)
		fails(t, "Parse", a, err, api.ErrNumber)
	}
	for b := range 256 {
		s := "1" + string([]byte{byte(b)}) + "1"
		if '0' <= b && b <= '9' {
			continue
		}
		a, err := nat.Parse(s)
		fails(t, "Parse", a, err, api.ErrNumber)
	}
}

// P1.10
func TestText(t *testing.T) {
	for want, a := range map[string]api.Nat{
		"0":                     nil,
		"1":                     {1},
		"10":                    {10, 0},
		"9999999999999999999":   {9999999999999999999},
		"10000000000000000000":  {10000000000000000000},
		"18446744073709551615":  {top},
		"18446744073709551616":  {0, 1, 0, 0},
		"100000000000000000000": {7766279631452241920, 5},
	} {
		if got := nat.Text(a); got != want {
			t.Errorf("Text(%v): %q, want %q", a, got, want)
		}
	}
	if got := nat.Text(api.Nat{0, 0}); got != "0" {
		t.Errorf("Text([0, 0]): %q", got)
	}
	for n := 1; n < 80; n++ {
		for _, want := range []string{strings.Repeat("9", n), "1" + strings.Repeat("0", n), "1" + strings.Repeat("0", n) + "1"} {
			if got := nat.Text(dec(t, want)); got != want {
				t.Errorf("Text: %q, want %q", got, want)
			}
		}
	}
	for a, b := range pairs {
		if nat.Text(a) != toBig(a).String() || nat.Text(b) != toBig(b).String() {
			t.Fatalf("Text(%v), Text(%v): %q, %q", a, b, nat.Text(a), nat.Text(b))
		}
	}
}

func digits(a api.Nat) []int { return slices.Collect(nat.Digits(a)) }

// P1.11
func TestDigits(t *testing.T) {
	for _, x := range []struct {
		a    api.Nat
		want []int
	}{
		{nil, nil}, {api.Nat{0, 0}, nil}, {api.Nat{5, 0}, []int{5}}, {api.Nat{120}, []int{0, 2, 1}},
		{api.Nat{0, 1}, []int{6, 1, 6, 1, 5, 5, 9, 0, 7, 3, 7, 0, 4, 4, 7, 6, 4, 4, 8, 1}},
	} {
		if got := digits(x.a); !slices.Equal(got, x.want) {
			t.Errorf("Digits(%v): %v, want %v", x.a, got, x.want)
		}
	}
	if nat.Digits(nil) == nil {
		t.Error("Digits(nil) is nil")
	}
	for a := range pairs {
		value, weight, ten := new(big.Int), big.NewInt(1), big.NewInt(10)
		last := 1
		for d := range nat.Digits(a) {
			if d < 0 || d > 9 {
				t.Fatalf("Digits(%v) gives %d", a, d)
			}
			value.Add(value, new(big.Int).Mul(weight, big.NewInt(int64(d))))
			weight.Mul(weight, ten)
			last = d
		}
		if value.Cmp(toBig(a)) != 0 || last == 0 {
			t.Fatalf("Digits(%v) are those of %v, the last one %d", a, value, last)
		}
	}
}

// P1.11
func TestDigitsLeftEarlyAndBegunAgain(t *testing.T) {
	s := "98765432109876543210987654321098765432101234567890123456789"
	all := nat.Digits(dec(t, s))
	for stop := range len(s) {
		n := 0
		for d := range all {
			if want := int(s[len(s)-1-n] - '0'); d != want {
				t.Fatalf("digit %d: %d, want %d", n, d, want)
			}
			if n == stop {
				break
			}
			n++
		}
		if n != stop {
			t.Fatalf("left at %d, not at %d", n, stop)
		}
	}
	if n := len(slices.Collect(all)); n != len(s) {
		t.Errorf("%d digits after all that, want %d", n, len(s))
	}
}

// P1.11: an iterator that goes on once it was left would make the range panic; asked by hand it would call again.
func TestDigitsStopWhenTold(t *testing.T) {
	for _, stop := range []int{1, 18, 19, 20, 38, 39} {
		n := 0
		nat.Digits(power(200))(func(int) bool {
			n++
			return n < stop
		})
		if n != stop {
			t.Errorf("told to stop at %d, went on to %d", stop, n)
		}
	}
}

// P1.11
func TestDigitsWithinThemselves(t *testing.T) {
	s := "1230000000000000000000000000000000000000000000456"
	all := nat.Digits(dec(t, s))
	outer := 0
	for d := range all {
		inner := 0
		for e := range all {
			if want := int(s[len(s)-1-inner] - '0'); e != want {
				t.Fatalf("inner digit %d: %d, want %d", inner, e, want)
			}
			inner++
		}
		if want := int(s[len(s)-1-outer] - '0'); d != want || inner != len(s) {
			t.Fatalf("outer digit %d: %d, want %d; %d within", outer, d, want, inner)
		}
		outer++
	}
	if outer != len(s) {
		t.Errorf("%d digits, want %d", outer, len(s))
	}
}

// P1.11
func TestDigitsLookWhenARangeBegins(t *testing.T) {
	a := api.Nat{7, 0}
	all := nat.Digits(a)
	a[0] = 42
	if got := slices.Collect(all); !slices.Equal(got, []int{2, 4}) {
		t.Errorf("of 42: %v", got)
	}
	a[0], a[1] = 0, 1
	if got := slices.Collect(all); !slices.Equal(got, digits(power(64))) {
		t.Errorf("of 2^64: %v", got)
	}
	a[1] = 0
	if got := slices.Collect(all); len(got) > 0 {
		t.Errorf("of nought: %v", got)
	}
}

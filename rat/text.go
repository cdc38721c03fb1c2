package rat

import (
	"strings"

	"vertex/api"
	"vertex/nat"
	"vertex/whole"
)

// Parse reads a number: P3.10.
func Parse(s string) (api.Rat, error) {
	if num, den, ok := strings.Cut(s, "/"); ok {
		return parseQuotient(num, den)
	}
	return parseDecimal(s)
}

// parseQuotient reads the number of which num, a sign and all, stands ahead of the stroke and den behind it.
func parseQuotient(num, den string) (api.Rat, error) {
	n, err := whole.Parse(num)
	if err != nil {
		return api.Rat{}, err
	}
	// A natural number, as there is no sign behind the stroke.
	d, err := nat.Parse(den)
	if err != nil {
		return api.Rat{}, err
	}
	return Make(n, api.Int{Mag: d})
}

func parseDecimal(s string) (api.Rat, error) {
	digits, exponent := cutExponent(s)
	ahead, behind, _ := strings.Cut(digits, ".")
	if strings.ContainsAny(behind, "+-") {
		// Without the point such a sign could stand at the beginning.
		return api.Rat{}, api.ErrNumber
	}
	num, err := whole.Parse(ahead + behind)
	if err != nil {
		return api.Rat{}, err
	}
	tens, err := parseExponent(exponent)
	if err != nil {
		return api.Rat{}, err
	}
	tens -= len(behind)
	if tens < 0 {
		return lowest(num, powerOfTen(-tens)), nil
	}
	return lowest(whole.Mul(num, powerOfTen(tens)), whole.Of(1)), nil
}

// cutExponent takes a decimal apart; where there is no exponent, it is that of 1.
func cutExponent(s string) (digits, exponent string) {
	i := strings.IndexAny(s, "eE")
	if i < 0 {
		return s, "0"
	}
	return s[:i], s[i+1:]
}

func parseExponent(s string) (int, error) {
	n, err := whole.Parse(s)
	if err != nil {
		return 0, err
	}
	v, ok := whole.Int64(n)
	if !ok || v < -api.MaxExponent || v > api.MaxExponent {
		return 0, api.ErrExponent
	}
	return int(v), nil
}

// powerOfTen is read from its digits, since nat.Pow ends far below what a long literal asks for.
func powerOfTen(n int) api.Int {
	// No error: these are digits.
	mag, _ := nat.Parse("1" + strings.Repeat("0", n))
	return api.Int{Mag: mag}
}

// Text tells a number: P3.11.
func Text(a api.Rat) string {
	a = Norm(a)
	num := whole.Text(a.Num)
	if IsWhole(a) {
		return num
	}
	return num + "/" + nat.Text(a.Den)
}

package whole

import (
	"vertex/api"
	"vertex/nat"
)

// Parse reads a number: P2.7.
func Parse(s string) (api.Int, error) {
	neg, digits := cutSign(s)
	mag, err := nat.Parse(digits)
	if err != nil {
		return api.Int{}, err
	}
	return signed(neg, mag), nil
}

// cutSign takes one sign off a text, if it has one; a second one is left, for nat.Parse to refuse.
func cutSign(s string) (neg bool, rest string) {
	if s == "" || s[0] != '+' && s[0] != '-' {
		return false, s
	}
	return s[0] == '-', s[1:]
}

// Text tells a number: P2.7.
func Text(a api.Int) string {
	digits := nat.Text(a.Mag)
	if Sign(a) < 0 {
		return "-" + digits
	}
	return digits
}

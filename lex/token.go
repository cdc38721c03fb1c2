package lex

import (
	"strings"

	"vertex/api"
	"vertex/rat"
)

const digits = "0123456789"

// signs: those of two bytes ahead of those of one, so that the first one that stands there is the longest.
var signs = [...]struct {
	text string
	kind int
}{
	{"<=", api.TLess}, {"=<", api.TLess}, {">=", api.TGreater}, {"=>", api.TGreater},
	{"<", api.TLess}, {">", api.TGreater}, {"=", api.TEqual},
	{"+", api.TPlus}, {"-", api.TMinus}, {":", api.TColon},
}

// read reads the token at the beginning of a text that isn't empty and begins with no gap; its place is still to be told.
func read(s string) (api.Token, error) {
	switch {
	case beginsNumber(s):
		return readNumber(s)
	case strings.IndexByte(nameBytes, s[0]) >= 0:
		return readName(s), nil
	}
	return readSign(s)
}

func readSign(s string) (api.Token, error) {
	for _, sign := range signs {
		if strings.HasPrefix(s, sign.text) {
			return api.Token{Kind: sign.kind, Text: sign.text}, nil
		}
	}
	return api.Token{}, api.ErrChar
}

// beginsNumber tells whether a digit or a point stands at the beginning of a text that isn't empty.
func beginsNumber(s string) bool { return s[0] == '.' || lead(s[:1], digits) > 0 }

func readNumber(s string) (api.Token, error) {
	text := s[:literal(s)]
	// A text without bytes is no literal, so rat.Parse answers what is due where no beginning is one.
	num, err := rat.Parse(text)
	if err != nil {
		return api.Token{}, err
	}
	return api.Token{Kind: api.TNumber, Text: text, Num: num}, nil
}

// literal tells how long the longest beginning of a text is that is a literal without a sign; 0, if none is. A digit or a point stands at the text's beginning.
func literal(s string) int {
	ahead := lead(s, digits)
	rest := s[ahead:]
	if behind := leadBehind(rest, "/"); behind > 0 {
		return ahead + 1 + behind
	}
	n := ahead
	if strings.HasPrefix(rest, ".") {
		behind := leadBehind(rest, ".")
		if ahead+behind == 0 {
			return 0
		}
		n += 1 + behind
	}
	return n + exponent(s[n:])
}

// exponent tells how long the exponent at the beginning of a text is; 0, if there is none.
func exponent(s string) int {
	for _, mark := range [...]string{"e", "E", "e+", "E+", "e-", "E-"} {
		if n := leadBehind(s, mark); n > 0 {
			return len(mark) + n
		}
	}
	return 0
}

// leadBehind tells how many digits stand behind a mark at the beginning of a text; 0, if it doesn't stand there.
func leadBehind(s, mark string) int {
	rest, ok := strings.CutPrefix(s, mark)
	if !ok {
		return 0
	}
	return lead(rest, digits)
}

// lead tells how many bytes of a set stand at the beginning of a text.
func lead(s, set string) int { return len(s) - len(strings.TrimLeft(s, set)) }

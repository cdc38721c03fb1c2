package nat

import (
	"iter"
	"slices"

	"vertex/api"
)

// A piece is as many decimal digits as a limb always holds, and pieceBase the first number that has one more.
const (
	pieceDigits = 19
	pieceBase   = 10_000_000_000_000_000_000
)

// Parse reads decimal digits: P1.10.
func Parse(s string) (api.Nat, error) {
	if !allDigits(s) {
		return nil, api.ErrNumber
	}
	var a api.Nat
	for len(s) > 0 {
		// The first piece is the one that may be short, so that all behind it weigh the same.
		n := (len(s)-1)%pieceDigits + 1
		a = scale(a, pieceBase, readPiece(s[:n]))
		s = s[n:]
	}
	return a, nil
}

// Text tells a number in decimal digits: P1.10.
func Text(a api.Nat) string {
	var text []byte
	for d := range Digits(a) {
		text = append(text, byte('0'+d))
	}
	if len(text) == 0 {
		return "0"
	}
	slices.Reverse(text)
	return string(text)
}

// Digits gives the decimal digits, the least first: P1.11.
func Digits(a api.Nat) iter.Seq[int] {
	return func(yield func(int) bool) {
		// Each range has a copy of its own to divide, made when it begins.
		rest := Norm(a)
		for len(rest) > 0 {
			piece := cut(rest, pieceBase)
			rest = trim(rest)
			if !tellPiece(piece, len(rest) > 0, yield) {
				return
			}
		}
	}
}

// tellPiece tells a piece's digits, the least first, and whether more are wanted; the noughts at its beginning count only if more pieces follow.
func tellPiece(piece uint64, whole bool, yield func(int) bool) bool {
	for i := 0; piece > 0 || whole && i < pieceDigits; i++ {
		if !yield(int(piece % 10)) {
			return false
		}
		piece /= 10
	}
	return true
}

func allDigits(s string) bool {
	for i := range len(s) {
		if s[i] < '0' || s[i] > '9' {
			return false
		}
	}
	return len(s) > 0
}

func readPiece(s string) uint64 {
	var v uint64
	for i := range len(s) {
		v = v*10 + uint64(s[i]-'0')
	}
	return v
}

package mps

import (
	"strings"

	"vertex/api"
	"vertex/rat"
)

// gaps are the bytes that part the words of a line.
const gaps = " \t\r"

// word is a word of a line, and the byte at which it begins.
type word struct {
	text string
	col  int
}

type line struct {
	number int
	text   string
	words  []word
}

func lineOf(number int, text string) line {
	l := line{number: number, text: text}
	begin := 0
	for i := range len(text) + 1 {
		if i < len(text) && strings.IndexByte(gaps, text[i]) < 0 {
			continue
		}
		if begin < i {
			l.words = append(l.words, word{text[begin:i], begin + 1})
		}
		begin = i + 1
	}
	return l
}

func (l line) isRemark() bool { return strings.HasPrefix(l.text, "*") }

// fault tells what is wrong with the line's word i; of one that is missing the place is the line's end.
func (l line) fault(i int, why error) error {
	col := len(l.text) + 1
	if i < len(l.words) {
		col = l.words[i].col
	}
	return &api.Fault{Line: l.number, Col: col, Err: why}
}

// counted tells the first word that is too many, or that one is missing.
func (l line) counted(c counts) error {
	n := len(l.words)
	if c.has(n) {
		return nil
	}
	return l.fault(min(n, c.most), api.ErrField)
}

// numberAt reads the number that word i has to be.
func (l line) numberAt(i int) (api.Rat, error) {
	number, err := rat.Parse(l.words[i].text)
	if err != nil {
		return api.Rat{}, l.fault(i, err)
	}
	return number, nil
}

// isMarker tells whether the line says which variables behind it are whole, and if so, whether they are.
func (l line) isMarker() (marks, whole bool) {
	if len(l.words) != 3 || l.words[1].text != marker {
		return false, false
	}
	last := l.words[2].text
	return last == wholes || last == noWholes, last == wholes
}

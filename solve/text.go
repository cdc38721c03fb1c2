package solve

import (
	"bytes"
	"strings"

	"vertex/api"
	"vertex/rat"
)

// tell puts lines down, one behind the other.
func tell(l []line) []byte {
	var text bytes.Buffer
	for _, x := range l {
		text.WriteString(x.words)
		for _, number := range x.numbers {
			text.WriteString(" " + rat.Text(*number))
		}
		text.WriteByte('\n')
	}
	return text.Bytes()
}

// blank gives a certificate of a verdict as long as its lines need it, its numbers still to be filled in.
func blank(p api.Problem, verdict int) api.Cert {
	c := api.Cert{Verdict: verdict}
	switch verdict {
	case api.Optimal:
		c.X = make([]api.Rat, len(p.Vars))
		fallthrough
	case api.Infeasible:
		c.Y = make([]api.Rat, len(p.Rows))
	case api.Unbounded:
		c.X, c.Ray = make([]api.Rat, len(p.Vars)), make([]api.Rat, len(p.Vars))
	}
	return c
}

// fill reads the numbers of lines; false, if the text isn't these lines, byte by byte.
func fill(l []line, text string) bool {
	isSo := true
	for _, x := range l {
		if text, isSo = x.fill(text); !isSo {
			return false
		}
	}
	return text == ""
}

// fill reads the numbers of the line with which a text begins, and gives what stands behind it; false, if the text begins otherwise.
//
// Names are cut off as they stand in the problem, ahead of any parting of words and lines: one by hand may have blanks and line feeds in it.
func (x line) fill(text string) (rest string, isSo bool) {
	rest, isSo = strings.CutPrefix(text, x.words)
	for _, number := range x.numbers {
		if !isSo {
			break
		}
		*number, rest, isSo = cutNumber(rest)
	}
	if !isSo {
		return "", false
	}
	return strings.CutPrefix(rest, "\n")
}

// numberBytes are all bytes that rat.Text puts down.
const numberBytes = "-/0123456789"

// cutNumber reads a blank and a number at the beginning of a text, and gives what stands behind them; false, if the number is told otherwise than rat.Text tells it.
func cutNumber(text string) (number api.Rat, rest string, isSo bool) {
	behind, hasBlank := strings.CutPrefix(text, " ")
	rest = strings.TrimLeft(behind, numberBytes)
	told := behind[:len(behind)-len(rest)]
	number, err := rat.Parse(told)
	if !hasBlank || err != nil || rat.Text(number) != told {
		return api.Rat{}, "", false
	}
	return number, rest, true
}

package parse_test

import (
	"strings"

	"vertex/api"
	"vertex/lex"
)

// moves tell of each stand in a text what may follow there, and the stand behind that. What follows is told by a letter: n a name, l a name with a colon behind it, d a number, s a sign, r a relation, the words by their first letters (M also min, G general and binary).
var moves = map[string]map[byte]string{
	"begin":      {'M': "aim"},
	"aim":        {'l': "aim label", 'n': "aim name", 'd': "aim number", 's': "aim sign", 'S': "row"},
	"aim label":  {':': "aim sum"},
	"aim sum":    {'l': "aim name", 'n': "aim name", 'd': "aim number", 's': "aim sign", 'S': "row"},
	"aim sign":   {'l': "aim name", 'n': "aim name", 'd': "aim number", 's': "aim sign"},
	"aim number": {'n': "aim name", 's': "aim sign", 'S': "row"},
	"aim name":   {'s': "aim sign", 'S': "row"},

	"row":       {'l': "row label", 'n': "1 name", 'd': "1 number", 's': "1 sign", 'B': "limit", 'G': "names", 'F': "names", 'E': "done"},
	"row label": {':': "1 sign"},
	"1 sign":    {'l': "1 name", 'n': "1 name", 'd': "1 number", 's': "1 sign"},
	"1 number":  {'n': "1 name", 's': "1 sign", 'r': "2"},
	"1 name":    {'s': "1n sign", 'r': "2n"},
	"1n sign":   {'l': "1 name", 'n': "1 name", 'd': "1n number", 's': "1n sign"},
	"1n number": {'n': "1 name", 's': "1n sign", 'r': "2n"},
	"2n":        {'s': "2n", 'd': "2n number", 'I': "row"},
	"2n number": {},
	"2":         {'l': "2 name", 'n': "2 name", 'd': "2 number", 's': "2", 'I': "row"},
	"2 sign":    {'l': "2 name", 'n': "2 name", 'd': "2 number", 's': "2 sign"},
	"2 number":  {'n': "2 name", 's': "2 sign", 'r': "3"},
	"2 name":    {'s': "2 sign", 'r': "3"},
	"3":         {'s': "3", 'd': "row", 'I': "row"},

	"limit":      {'l': "limit name", 'n': "limit name", 'd': "value", 's': "value sign", 'I': "value", 'B': "limit", 'G': "names", 'F': "names", 'E': "done"},
	"limit name": {'F': "limit", 'r': "4"},
	"value sign": {'s': "value sign", 'd': "value", 'I': "value"},
	"value":      {'r': "value of"},
	"value of":   {'l': "value name", 'n': "value name"},
	"value name": {'r': "4"},
	"4":          {'s': "4", 'd': "limit", 'I': "limit"},

	"names": {'l': "names", 'n': "names", 'B': "limit", 'G': "names", 'F': "names", 'E': "done"},
	"done":  {'$': "over"},
}

// ends tell at which stands a part may end, and where the text stands then.
var ends = map[string]string{"2n number": "row", "2 number": "row", "2 name": "row", "value name": "limit"}

// stand is where a text stands ahead of a token: the relation that was read last, whether the signs are minus, and the infinity at a limit's beginning.
type stand struct {
	at    string
	rel   int
	minus bool
	inf   *api.Token
}

// letterOf tells a token by its letter.
func letterOf(t, behind api.Token) byte {
	switch t.Kind {
	case api.TName:
		if behind.Kind == api.TColon {
			return 'l'
		}
		return 'n'
	case api.TWord:
		return "?MMSBGGFIE"[t.Word]
	}
	return "$?dss:rrr"[t.Kind]
}

// fits tells whether infinity is a bound that shuts nothing out, behind a relation or ahead of it.
func fits(rel int, ahead, minus bool) bool {
	return rel == api.TLess && ahead == minus || rel == api.TGreater && ahead != minus
}

// step goes over a token, and gives the fault, if it can't stand there.
func (s *stand) step(t api.Token, letter byte) *api.Fault {
	fault := func(at api.Token, err error) *api.Fault { return &api.Fault{Line: at.Line, Col: at.Col, Err: err} }
	next, ok := moves[s.at][letter]
	if end, may := ends[s.at]; may && !ok {
		s.minus, s.inf = false, nil
		next, ok = moves[end][letter]
	}
	name := letter == 'n' || letter == 'l'
	switch {
	case name && (s.at == "2n" || s.at == "3"), letter == 'r' && s.at == "2n number":
		return fault(t, api.ErrSides)
	case !ok:
		return fault(t, api.ErrDue)
	case letter == 'r' && (next == "3" || s.at == "value name") && (t.Kind == api.TEqual || t.Kind != s.rel):
		return fault(t, api.ErrSigns)
	case letter == 'I' && next != "value" && !fits(s.rel, false, s.minus):
		return fault(t, api.ErrDue)
	case s.at == "value of" && s.inf != nil && !fits(s.rel, true, s.minus):
		return fault(*s.inf, api.ErrDue)
	}
	switch {
	case next == "value" && letter == 'I':
		s.inf = &t
	case next == "limit":
		s.minus, s.inf = false, nil
	case t.Kind == api.TMinus:
		s.minus = !s.minus
	case letter == 'r' && next != "value of":
		s.minus, s.inf = false, nil
	}
	if letter == 'r' {
		s.rel = t.Kind
	}
	s.at = next
	return nil
}

// endOf is the place behind a text's last byte.
func endOf(s string) api.Token {
	lines := strings.Split(s, "\n")
	return api.Token{Line: len(lines), Col: 1 + len(lines[len(lines)-1])}
}

// judge gives the fault that a text is to be refused with; nil, if it is to be read. It goes from token to token, and knows no more of what was ahead than where the text stands.
func judge(s string) *api.Fault {
	tokens, err := lex.Scan(s)
	if err != nil {
		return err.(*api.Fault)
	}
	tokens = append(tokens, endOf(s), api.Token{})
	now := stand{at: "begin"}
	for i, t := range tokens[:len(tokens)-1] {
		if f := now.step(t, letterOf(t, tokens[i+1])); f != nil {
			return f
		}
	}
	return nil
}

package mps_test

import (
	"math/big"
	"regexp"
	"slices"
	"strings"

	"vertex/api"
)

// What follows is a second reader, by the words of P9.1 to P9.3: the lines are cut by patterns, an entry is held against a table of forms, and what was said is looked up among all that was said, behind the last line.

var (
	lineForm  = regexp.MustCompile(`(?s)^([^\n]*)(?:\n|$)`)
	wordForm  = regexp.MustCompile(`[^ \t\r]+`)
	digitForm = regexp.MustCompile(`^[+-]?(\d+\.?\d*|\.\d+)([eE][+-]?(\d+))?$`)
	markForm  = regexp.MustCompile(`^'MARKER' 'INT(ORG|END)'$`)
	quotForm  = regexp.MustCompile(`^[+-]?\d+/(\d+)$`)
)

// forms are the entries of each head (of BOUNDS, of each kind), word by word: s a sense, k a row's kind, n its name, v a variable, maybe a new one, x one that there is, r a row, q one that may have an RHS, g one that may have a RANGE, d a number, _ what isn't looked at.
var forms = map[string][]string{
	"OBJSENSE": {"s"},
	"ROWS":     {"kn"},
	"COLUMNS":  {"vrd", "vrdrd"},
	"RHS":      {"qd", "_qd", "qdqd", "_qdqd"},
	"RANGES":   {"gd", "_gd", "gdgd", "_gdgd"},
	"LO":       {"_xd", "__xd"},
	"UP":       {"_xd", "__xd"},
	"FX":       {"_xd", "__xd"},
	"FR":       {"_x", "__x"},
	"MI":       {"_x", "__x"},
	"PL":       {"_x", "__x"},
	"BV":       {"_x", "__x"},
}

// statement is something that a text said: under which head (of BOUNDS, of which kind), of what, and what.
type statement struct {
	head, of, row string
	number        *big.Rat
}

// second is the second reader.
type second struct {
	head  string
	names []string // of rows, the objective among them, as they stand
	kinds []string // of rows: N, G, L, E, or O for the objective
	vars  []string
	whole []bool
	mark  bool
	max   bool
	said  []statement
}

func (s *second) kindOf(row string) string {
	if i := slices.Index(s.names, row); i >= 0 {
		return s.kinds[i]
	}
	return ""
}

// numberIn is a literal's number, or its error, by chapter 3's words.
func numberIn(word string) (*big.Rat, error) {
	if m := quotForm.FindStringSubmatch(word); m != nil {
		if strings.Trim(m[1], "0") == "" {
			return nil, api.ErrDivide
		}
	} else if m := digitForm.FindStringSubmatch(word); m == nil {
		return nil, api.ErrNumber
	} else if len(strings.TrimLeft(m[3], "0")) > 4 {
		return nil, api.ErrExponent
	}
	n, ok := new(big.Rat).SetString(strings.TrimPrefix(word, "+"))
	if !ok {
		panic("big.Rat doesn't read " + word)
	}
	return n, nil
}

// wordError is what is wrong with a word that has to be what a letter of forms tells.
func (s *second) wordError(letter byte, word, ahead string) error {
	kind := s.kindOf(word)
	switch {
	case letter == 's' && word != "MAX" && word != "MIN", letter == 'k' && !slices.Contains([]string{"N", "G", "L", "E"}, word):
		return api.ErrField
	case letter == 'n' && word == "-" && (ahead != "N" || slices.Contains(s.kinds, "O")):
		return api.ErrField
	case letter == 'n' && kind != "":
		return api.ErrTwice
	case letter == 'x' && !slices.Contains(s.vars, word), strings.IndexByte("rqg", letter) >= 0 && kind == "":
		return api.ErrName
	case letter == 'q' && kind == "N", letter == 'g' && (kind == "N" || kind == "O"):
		return api.ErrField
	case letter == 'd':
		_, err := numberIn(word)
		return err
	}
	return nil
}

// entry is an entry's fault: which word's, and why; none, if why is nil.
func (s *second) entry(words []string) (at int, why error) {
	head := s.head
	if head == "" || head == "NAME" {
		return 0, api.ErrSection
	}
	if head == "BOUNDS" {
		if head = words[0]; len(head) != 2 || forms[head] == nil {
			return 0, api.ErrField
		}
	}
	if head == "COLUMNS" && len(words) == 3 && markForm.MatchString(strings.Join(words[1:], " ")) {
		s.mark = words[2] == "'INTORG'"
		return 0, nil
	}
	form, most := "", 0
	for _, x := range forms[head] {
		if most = max(most, len(x)); len(x) == len(words) {
			form = x
		}
	}
	if form == "" {
		return min(most, len(words)), api.ErrField
	}
	for i, word := range words {
		if why := s.wordError(form[i], word, words[max(i-1, 0)]); why != nil {
			return i, why
		}
	}
	s.say(head, form, words)
	return 0, nil
}

// say keeps what an entry without fault says.
func (s *second) say(head, form string, words []string) {
	of := ""
	for i, word := range words {
		switch form[i] {
		case 's':
			s.max = word == "MAX"
		case 'n':
			kind := words[0]
			if kind == "N" && !slices.Contains(s.kinds, "O") {
				kind = "O"
			}
			s.names, s.kinds = append(s.names, word), append(s.kinds, kind)
		case 'v':
			if of = word; !slices.Contains(s.vars, word) {
				s.vars, s.whole = append(s.vars, word), append(s.whole, s.mark)
			}
		case 'x', 'q', 'g':
			if of = word; i == len(words)-1 {
				s.said = append(s.said, statement{head: head, of: of})
			}
		case 'd':
			n, _ := numberIn(word)
			s.said = append(s.said, statement{head, of, words[i-1], n})
		}
	}
}

// last is the number that was said last under a head of something; nil, if none was.
func (s *second) last(head, of string) *big.Rat {
	for _, x := range slices.Backward(s.said) {
		if x.head == head && x.of == of {
			return x.number
		}
	}
	return nil
}

// coef is the sum of the coefficients of a variable in a row.
func (s *second) coef(variable, row string) *big.Rat {
	sum := new(big.Rat)
	for _, x := range s.said {
		if x.head == "COLUMNS" && x.of == variable && x.row == row {
			sum.Add(sum, x.number)
		}
	}
	return sum
}

// thereAt is a bound at a number.
func thereAt(n *big.Rat) api.Bound { return api.Bound{Has: true, At: fromBig(n)} }

// variable makes the variable at a place.
func (s *second) variable(i int) api.Var {
	zero, one := new(big.Rat), big.NewRat(1, 1)
	v := api.Var{Name: s.vars[i], Whole: s.whole[i], Lo: thereAt(zero), Obj: fromBig(zero)}
	for _, x := range s.said {
		if x.of != v.Name {
			continue
		}
		switch x.head {
		case "LO", "FX":
			v.Lo = thereAt(x.number)
		case "MI", "FR":
			v.Lo = api.Bound{}
		case "BV":
			v.Lo, v.Hi, v.Whole = thereAt(zero), thereAt(one), true
		}
		switch x.head {
		case "UP", "FX":
			v.Hi = thereAt(x.number)
		case "PL", "FR":
			v.Hi = api.Bound{}
		}
	}
	return v
}

// ends makes a row's bounds, by a table of what is added to its RHS: Lo and Hi in turn, 0, r, -r, or nothing.
func (s *second) ends(kind, name string) (lo, hi api.Bound) {
	rhs, reach := s.last("RHS", name), s.last("RANGES", name)
	if rhs == nil {
		rhs = new(big.Rat)
	}
	if reach != nil {
		kind += map[int]string{-1: "-", 0: "+", 1: "+"}[reach.Sign()]
	}
	table := map[string]string{"G": "0 ", "L": " 0", "E": "00", "N": "  ", "G+": "0r", "G-": "0r", "L+": "-0", "L-": "-0", "E+": "0r", "E-": "r0"}[kind]
	end := func(letter byte) api.Bound {
		switch letter {
		case '0':
			return thereAt(rhs)
		case 'r':
			return thereAt(new(big.Rat).Add(rhs, reach))
		case '-':
			return thereAt(new(big.Rat).Sub(rhs, reach))
		}
		return api.Bound{}
	}
	return end(table[0]), end(table[1])
}

// problem makes the problem of all that was said.
func (s *second) problem() api.Problem {
	p := api.Problem{Max: s.max, Const: fromBig(new(big.Rat))}
	for i := range s.vars {
		p.Vars = append(p.Vars, s.variable(i))
	}
	for i, name := range s.names {
		if s.kinds[i] == "O" {
			if name != "-" {
				p.Name = name
			}
			if rhs := s.last("RHS", name); rhs != nil {
				p.Const = fromBig(new(big.Rat).Neg(rhs))
			}
			for j, variable := range s.vars {
				p.Vars[j].Obj = fromBig(s.coef(variable, name))
			}
			continue
		}
		row := api.Row{Name: name}
		row.Lo, row.Hi = s.ends(s.kinds[i], name)
		for j, variable := range s.vars {
			if n := s.coef(variable, name); n.Sign() != 0 {
				row.Terms = append(row.Terms, api.Term{Var: j, Coef: fromBig(n)})
			}
		}
		p.Rows = append(p.Rows, row)
	}
	return p
}

// secondly reads a text: its problem, or where its first fault is.
func secondly(text string) (api.Problem, place) {
	var s second
	n := 1
	for ; text != ""; n++ {
		m := lineForm.FindStringSubmatch(text)
		text = text[len(m[0]):]
		line := m[1]
		spans := wordForm.FindAllStringIndex(line, -1)
		if len(spans) == 0 || line[0] == '*' {
			continue
		}
		words := wordForm.FindAllString(line, -1)
		at, why := 0, error(nil)
		if spans[0][0] > 0 {
			at, why = s.entry(words)
		} else if slices.Index(inOrder, words[0]) <= slices.Index(inOrder, s.head) {
			why = api.ErrSection
		} else if s.head = words[0]; len(words) > 1 && s.head != "NAME" {
			at, why = 1, api.ErrField
		}
		if why != nil {
			col := len(line) + 1
			if at < len(spans) {
				col = spans[at][0] + 1
			}
			return api.Problem{}, place{n, col, why}
		}
		if s.head == "ENDATA" {
			return s.problem(), place{}
		}
	}
	return api.Problem{}, place{n, 1, api.ErrSection}
}

// hasErrName tells whether Write is to refuse a problem, by P9.4's words.
func hasErrName(p api.Problem) bool {
	noWord := func(name string) bool { return name == "" || strings.IndexAny(name, " \t\r\n") >= 0 }
	if p.Name != "" && noWord(p.Name) || p.Name == "-" {
		return true
	}
	for i, v := range p.Vars {
		if noWord(v.Name) || slices.ContainsFunc(p.Vars[:i], func(w api.Var) bool { return w.Name == v.Name }) {
			return true
		}
	}
	for i, row := range p.Rows {
		if noWord(row.Name) || row.Name == "-" || row.Name == p.Name || slices.ContainsFunc(p.Rows[:i], func(w api.Row) bool { return w.Name == row.Name }) {
			return true
		}
	}
	return false
}

// kindOfBounds is a letter for two bounds: N neither, G Lo, L Hi, E both the same, R both unlike.
func kindOfBounds(lo, hi api.Bound) string {
	switch {
	case lo.Has && hi.Has && toBig(lo.At).Cmp(toBig(hi.At)) != 0:
		return "R"
	case lo.Has && hi.Has:
		return "E"
	case lo.Has:
		return "G"
	case hi.Has:
		return "L"
	}
	return "N"
}

// textOf is what Write is to answer, by P9.4's words, from the problem as it stands.
func textOf(p api.Problem) string {
	objective := p.Name
	if objective == "" {
		objective = "-"
	}
	var rows, columns, rhs, reaches, limits strings.Builder
	put := func(w *strings.Builder, words ...string) { w.WriteString(" " + strings.Join(words, " ") + "\n") }
	show := func(a api.Rat) string { return toBig(a).RatString() }
	put(&rows, "N", objective)
	if n := toBig(p.Const); n.Sign() != 0 {
		put(&rhs, "RHS", objective, n.Neg(n).RatString())
	}
	for _, row := range p.Rows {
		kind := kindOfBounds(row.Lo, row.Hi)
		put(&rows, strings.Replace(kind, "R", "G", 1), row.Name)
		n := row.Lo.At
		if kind == "L" {
			n = row.Hi.At
		}
		if kind != "N" && toBig(n).Sign() != 0 {
			put(&rhs, "RHS", row.Name, show(n))
		}
		if kind == "R" {
			put(&reaches, "RHS", row.Name, new(big.Rat).Sub(toBig(row.Hi.At), toBig(row.Lo.At)).RatString())
		}
	}
	for i, v := range p.Vars {
		ahead := i > 0 && p.Vars[i-1].Whole
		if v.Whole != ahead {
			put(&columns, "MARKER", "'MARKER'", map[bool]string{true: "'INTORG'", false: "'INTEND'"}[v.Whole])
		}
		before := columns.Len()
		if toBig(v.Obj).Sign() != 0 {
			put(&columns, v.Name, objective, show(v.Obj))
		}
		for _, row := range p.Rows {
			sum := new(big.Rat)
			for _, x := range row.Terms {
				if x.Var == i {
					sum.Add(sum, toBig(x.Coef))
				}
			}
			if sum.Sign() != 0 {
				put(&columns, v.Name, row.Name, sum.RatString())
			}
		}
		if columns.Len() == before {
			put(&columns, v.Name, objective, "0")
		}
		putLimits(v, func(words ...string) { put(&limits, words...) })
	}
	text := "NAME\n"
	for _, part := range []struct{ head, entries string }{
		{"OBJSENSE", map[bool]string{true: " MAX\n"}[p.Max]}, {"ROWS", rows.String()}, {"COLUMNS", columns.String()}, {"RHS", rhs.String()}, {"RANGES", reaches.String()}, {"BOUNDS", limits.String()},
	} {
		if part.entries != "" || part.head == "COLUMNS" {
			text += part.head + "\n" + part.entries
		}
	}
	return text + "ENDATA\n"
}

func putLimits(v api.Var, put func(words ...string)) {
	kind := kindOfBounds(v.Lo, v.Hi)
	lo, hi := toBig(v.Lo.At).RatString(), toBig(v.Hi.At).RatString()
	switch kind {
	case "E":
		put("FX", "BND", v.Name, lo)
	case "N":
		put("FR", "BND", v.Name)
	case "L":
		put("MI", "BND", v.Name)
	default:
		if lo != "0" {
			put("LO", "BND", v.Name, lo)
		}
	}
	if kind == "L" || kind == "R" {
		put("UP", "BND", v.Name, hi)
	}
}

package shape

import (
	"vertex/api"
	"vertex/rat"
)

// equation is a row of the standard; the Var of its terms is a column.
type equation struct {
	terms []api.Term
	right api.Rat
}

func (s *Shape) addEquation(right api.Rat, terms ...api.Term) {
	s.equations = append(s.equations, equation{terms: terms, right: right})
}

// addRow adds the equations of a row whose sum is start where all columns are nought, and tells the place of their first, or none: P10.3.
func (s *Shape) addRow(row api.Row, start api.Rat) int {
	first := len(s.equations)
	terms := s.inColumns(row.Terms)
	lo, hi := rat.Sub(row.Lo.At, start), rat.Sub(row.Hi.At, start)
	switch {
	case !row.Lo.Has && !row.Hi.Has:
		return none
	case !row.Lo.Has:
		s.addEquation(hi, append(terms, once(s.newColumn()))...)
	case !row.Hi.Has:
		s.addEquation(lo, append(terms, lessOnce(s.newColumn()))...)
	case rat.Cmp(lo, hi) == 0:
		s.addEquation(lo, terms...)
	default:
		slack := s.newColumn()
		s.addEquation(lo, append(terms, lessOnce(slack))...)
		s.addWidth(slack, lo, hi)
	}
	return first
}

// addWidth adds what keeps a column that counts from lo on from passing hi.
func (s *Shape) addWidth(column int, lo, hi api.Rat) {
	s.addEquation(rat.Sub(hi, lo), once(column), once(s.newColumn()))
}

// inColumns tells terms of variables as terms of their columns.
func (s *Shape) inColumns(terms []api.Term) []api.Term {
	var l []api.Term
	for _, term := range terms {
		l = append(l, s.steps[term.Var].split(term.Coef)...)
	}
	return l
}

// once is a column as it is, lessOnce the same turned.
func once(column int) api.Term { return api.Term{Var: column, Coef: rat.Of(1)} }

func lessOnce(column int) api.Term { return api.Term{Var: column, Coef: rat.Of(-1)} }

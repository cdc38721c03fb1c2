package mps

import (
	"vertex/api"
	"vertex/rat"
)

// reader gathers what a text says. The objective is one of the rows, at the place objective (below 0: there is none), as the text speaks of it as of any other.
type reader struct {
	head      int
	max       bool
	rows      []row
	objective int
	rowPlaces map[string]int
	vars      []api.Var
	varPlaces map[string]int
	whole     bool // of variables that are new
}

func newReader() *reader {
	return &reader{head: noHead, objective: -1, rowPlaces: map[string]int{}, varPlaces: map[string]int{}}
}

// take takes a line.
func (r *reader) take(l line) error {
	switch {
	case len(l.words) == 0 || l.isRemark():
		return nil
	case l.words[0].col == 1:
		return r.takeHead(l)
	}
	return r.takeEntry(l)
}

// takeHead takes a head: P9.2.
func (r *reader) takeHead(l line) error {
	place := headOf(l.words[0].text)
	if place <= r.head {
		return l.fault(0, api.ErrSection)
	}
	if len(l.words) > 1 && !heads[place].loose {
		return l.fault(1, api.ErrField)
	}
	r.head = place
	return nil
}

// takeEntry takes an entry: P9.3.
func (r *reader) takeEntry(l line) error {
	switch r.head {
	case noHead, nameHead:
		return l.fault(0, api.ErrSection)
	case boundsHead:
		return r.takeLimit(l)
	}
	if err := l.counted(heads[r.head].entry); err != nil {
		return err
	}
	switch r.head {
	case senseHead:
		return r.takeSense(l)
	case rowsHead:
		return r.takeRow(l)
	case columnsHead:
		return r.takeColumn(l)
	case rhsHead:
		return r.takeRHS(l)
	}
	return r.takeRange(l)
}

func (r *reader) takeSense(l line) error {
	sense := l.words[0].text
	if sense != "MAX" && sense != "MIN" {
		return l.fault(0, api.ErrField)
	}
	r.max = sense == "MAX"
	return nil
}

func (r *reader) takeRow(l line) error {
	kind, name := l.words[0].text, l.words[1].text
	if kind != "N" && kind != "G" && kind != "L" && kind != "E" {
		return l.fault(0, api.ErrField)
	}
	isObjective := kind == "N" && r.objective < 0
	if name == unnamed && !isObjective {
		return l.fault(1, api.ErrField)
	}
	if _, twice := r.rowPlaces[name]; twice {
		return l.fault(1, api.ErrTwice)
	}
	if isObjective {
		r.objective = len(r.rows)
	}
	r.rowPlaces[name] = len(r.rows)
	r.rows = append(r.rows, row{name: name, kind: kind})
	return nil
}

func (r *reader) takeColumn(l line) error {
	if marks, whole := l.isMarker(); marks {
		r.whole = whole
		return nil
	}
	variable := r.placeOf(l.words[0].text)
	every := func(int) bool { return true }
	return r.takePairs(l, 1, every, func(x *row, number api.Rat) {
		x.terms = append(x.terms, api.Term{Var: variable, Coef: number})
	})
}

// placeOf gives a variable's place; one that was not named ahead is a new one.
func (r *reader) placeOf(name string) int {
	place, ok := r.varPlaces[name]
	if !ok {
		place = len(r.vars)
		r.varPlaces[name] = place
		r.vars = append(r.vars, api.Var{Name: name, Lo: boundOf(rat.Of(0)), Whole: r.whole})
	}
	return place
}

func (r *reader) takeRHS(l line) error {
	fit := func(place int) bool { return place == r.objective || r.rows[place].hasBounds() }
	return r.takePairs(l, len(l.words)%2, fit, func(x *row, number api.Rat) { x.rhs = number })
}

func (r *reader) takeRange(l line) error {
	fit := func(place int) bool { return r.rows[place].hasBounds() }
	return r.takePairs(l, len(l.words)%2, fit, func(x *row, number api.Rat) { x.ranged, x.reach = true, number })
}

// takePairs takes a row's name and a number, and such a pair again, up to the line's end, from the word first on. The row has to be fit for what is said of it; then tell says it.
func (r *reader) takePairs(l line, first int, fit func(place int) bool, tell func(x *row, number api.Rat)) error {
	for i := first; i < len(l.words); i += 2 {
		place, ok := r.rowPlaces[l.words[i].text]
		if !ok {
			return l.fault(i, api.ErrName)
		}
		if !fit(place) {
			return l.fault(i, api.ErrField)
		}
		number, err := l.numberAt(i + 1)
		if err != nil {
			return err
		}
		tell(&r.rows[place], number)
	}
	return nil
}

// takeLimit takes an entry of BOUNDS. Its name, and the number if its kind has one, are its last words.
func (r *reader) takeLimit(l line) error {
	kind := limitOf(l.words[0].text)
	if kind < 0 {
		return l.fault(0, api.ErrField)
	}
	if err := l.counted(limits[kind].entry); err != nil {
		return err
	}
	at := len(l.words) - 1
	if limits[kind].numbered {
		at--
	}
	place, ok := r.varPlaces[l.words[at].text]
	if !ok {
		return l.fault(at, api.ErrName)
	}
	var number api.Rat
	if limits[kind].numbered {
		var err error
		if number, err = l.numberAt(at + 1); err != nil {
			return err
		}
	}
	setLimit(&r.vars[place], limits[kind].kind, number)
	return nil
}

// setLimit sets what a kind of bounds says of a variable.
func setLimit(v *api.Var, kind string, number api.Rat) {
	switch kind {
	case "LO":
		v.Lo = boundOf(number)
	case "UP":
		v.Hi = boundOf(number)
	case "FX":
		v.Lo, v.Hi = boundOf(number), boundOf(number)
	case "FR":
		v.Lo, v.Hi = api.Bound{}, api.Bound{}
	case "MI":
		v.Lo = api.Bound{}
	case "PL":
		v.Hi = api.Bound{}
	case "BV":
		v.Lo, v.Hi, v.Whole = boundOf(rat.Of(0)), boundOf(rat.Of(1)), true
	}
}

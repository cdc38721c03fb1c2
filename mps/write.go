package mps

import (
	"strings"

	"vertex/api"
	"vertex/rat"
)

// named tells whether a problem's names may stand in a text: P9.4.
func named(p api.Problem) bool {
	var vars []string
	for _, v := range p.Vars {
		vars = append(vars, v.Name)
	}
	// What an objective without a name is called is nobody's name, whether this one has a name or not.
	labels := []string{unnamed}
	if p.Name != "" {
		labels = append(labels, p.Name)
	}
	for _, row := range p.Rows {
		labels = append(labels, row.Name)
	}
	return apart(vars) && apart(labels)
}

// apart tells whether names are all words, and none is there twice.
func apart(names []string) bool {
	seen := map[string]struct{}{}
	for _, name := range names {
		if _, twice := seen[name]; twice || !isWord(name) {
			return false
		}
		seen[name] = struct{}{}
	}
	return true
}

func isWord(name string) bool { return name != "" && !strings.ContainsAny(name, gaps+"\n") }

// entriesOf tells what stands under a head, entry by entry; of a problem in its one form.
func entriesOf(head int, p api.Problem) []string {
	switch head {
	case senseHead:
		return senseEntries(p)
	case rowsHead:
		return rowEntries(p)
	case columnsHead:
		return columnEntries(p)
	case rhsHead:
		return rhsEntries(p)
	case rangesHead:
		return rangeEntries(p)
	case boundsHead:
		return boundEntries(p)
	}
	return nil
}

func entry(words ...string) string { return strings.Join(words, " ") }

// objectiveOf gives what the objective is called in the text.
func objectiveOf(p api.Problem) string {
	if p.Name == "" {
		return unnamed
	}
	return p.Name
}

func senseEntries(p api.Problem) []string {
	if p.Max {
		return []string{"MAX"}
	}
	return nil
}

func rowEntries(p api.Problem) []string {
	entries := []string{entry("N", objectiveOf(p))}
	for _, row := range p.Rows {
		entries = append(entries, entry(kindOf(row), row.Name))
	}
	return entries
}

func kindOf(row api.Row) string {
	switch {
	case isOne(row.Lo, row.Hi):
		return "E"
	case row.Lo.Has:
		return "G"
	case row.Hi.Has:
		return "L"
	}
	return "N"
}

// isOne tells whether two bounds are both there and the same number.
func isOne(lo, hi api.Bound) bool { return lo.Has && hi.Has && rat.Cmp(lo.At, hi.At) == 0 }

func columnEntries(p api.Problem) []string {
	var entries []string
	whole := false
	columns := columnsOf(p)
	for i, v := range p.Vars {
		if v.Whole != whole {
			entries = append(entries, markerEntry(v.Whole))
			whole = v.Whole
		}
		entries = append(entries, columns[i]...)
	}
	return entries
}

func markerEntry(whole bool) string {
	if whole {
		return entry("MARKER", marker, wholes)
	}
	return entry("MARKER", marker, noWholes)
}

// columnsOf tells the coefficients, variable by variable. One that has none is told with 0, as the text's reader would not know of it else.
func columnsOf(p api.Problem) [][]string {
	columns := make([][]string, len(p.Vars))
	add := func(place int, row string, coef api.Rat) {
		columns[place] = append(columns[place], entry(p.Vars[place].Name, row, rat.Text(coef)))
	}
	for i, v := range p.Vars {
		if rat.Sign(v.Obj) != 0 {
			add(i, objectiveOf(p), v.Obj)
		}
	}
	for _, row := range p.Rows {
		for _, term := range row.Terms {
			add(term.Var, row.Name, term.Coef)
		}
	}
	for i := range columns {
		if len(columns[i]) == 0 {
			add(i, objectiveOf(p), rat.Of(0))
		}
	}
	return columns
}

func rhsEntries(p api.Problem) []string {
	var entries []string
	add := func(name string, number api.Rat) {
		if rat.Sign(number) != 0 {
			entries = append(entries, entry("RHS", name, rat.Text(number)))
		}
	}
	add(objectiveOf(p), rat.Neg(p.Const))
	for _, row := range p.Rows {
		switch kindOf(row) {
		case "G", "E":
			add(row.Name, row.Lo.At)
		case "L":
			add(row.Name, row.Hi.At)
		}
	}
	return entries
}

func rangeEntries(p api.Problem) []string {
	var entries []string
	for _, row := range p.Rows {
		if row.Lo.Has && row.Hi.Has && !isOne(row.Lo, row.Hi) {
			entries = append(entries, entry("RHS", row.Name, rat.Text(rat.Sub(row.Hi.At, row.Lo.At))))
		}
	}
	return entries
}

func boundEntries(p api.Problem) []string {
	var entries []string
	for _, v := range p.Vars {
		entries = append(entries, limitEntries(v)...)
	}
	return entries
}

// limitEntries tells the bounds of a variable in which it is unlike one of which a text says nothing.
func limitEntries(v api.Var) []string {
	switch {
	case isOne(v.Lo, v.Hi):
		return []string{entry("FX BND", v.Name, rat.Text(v.Lo.At))}
	case !v.Lo.Has && !v.Hi.Has:
		return []string{entry("FR BND", v.Name)}
	}
	var entries []string
	switch {
	case !v.Lo.Has:
		entries = append(entries, entry("MI BND", v.Name))
	case rat.Sign(v.Lo.At) != 0:
		entries = append(entries, entry("LO BND", v.Name, rat.Text(v.Lo.At)))
	}
	if v.Hi.Has {
		entries = append(entries, entry("UP BND", v.Name, rat.Text(v.Hi.At)))
	}
	return entries
}

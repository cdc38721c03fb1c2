package solve

import (
	"strconv"
	"strings"

	"vertex/api"
)

// line is a line of an answer: what stands ahead of its numbers, and where these are kept.
type line struct {
	words   string
	numbers []*api.Rat
}

// certLines gives the lines of a certificate.
func certLines(p api.Problem, c *api.Cert) []line {
	l := []line{{words: wordOf(c.Verdict)}}
	switch c.Verdict {
	case api.Optimal:
		l = append(l, valueLine(&c.Value))
		l = append(l, varLines(p.Vars, c.X)...)
		fallthrough
	case api.Infeasible:
		l = append(l, rowLines(p.Rows, c.Y)...)
	case api.Unbounded:
		l = append(l, varLines(p.Vars, c.X, c.Ray)...)
	}
	return append(l, line{words: "end"})
}

// searchLines gives the lines of a search.
func searchLines(p api.Problem, s *api.Search) []line {
	l := []line{{words: wordOf(s.Verdict)}}
	switch s.Verdict {
	case api.Optimal:
		l = append(l, valueLine(&s.Value))
		fallthrough
	case api.Unbounded:
		// An optimal search has no Ray: its variables have but one number each.
		l = append(l, varLines(p.Vars, s.X, s.Ray)...)
		fallthrough
	case api.Infeasible, api.Stopped:
		l = append(l, line{words: "nodes " + strconv.Itoa(s.Nodes)})
	}
	return append(l, line{words: "end"})
}

func valueLine(value *api.Rat) line { return line{"value", []*api.Rat{value}} }

// varLines gives a line for each variable, with its number of each of the lists that aren't empty.
func varLines(vars []api.Var, lists ...[]api.Rat) []line {
	l := make([]line, len(vars))
	for j, v := range vars {
		l[j].words = "var " + v.Name
		for _, list := range lists {
			if len(list) > 0 {
				l[j].numbers = append(l[j].numbers, &list[j])
			}
		}
	}
	return l
}

func rowLines(rows []api.Row, y []api.Rat) []line {
	l := make([]line, len(rows))
	for i, row := range rows {
		l[i] = line{"row " + row.Name, []*api.Rat{&y[i]}}
	}
	return l
}

// wordOf gives the line of a verdict.
func wordOf(verdict int) string {
	switch verdict {
	case api.Optimal:
		return "optimal"
	case api.Infeasible:
		return "infeasible"
	case api.Unbounded:
		return "unbounded"
	case api.Stopped:
		return "stopped"
	}
	return ""
}

// verdictOf gives the verdict of which a certificate's answer speaks; 0: none.
func verdictOf(text string) int {
	first, _, _ := strings.Cut(text, "\n")
	for verdict := api.Optimal; verdict <= api.Unbounded; verdict++ {
		if first == wordOf(verdict) {
			return verdict
		}
	}
	return 0
}

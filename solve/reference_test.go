package solve_test

import (
	"fmt"
	"math/big"
	"regexp"
	"slices"
	"strings"

	"vertex/api"
	"vertex/back"
	"vertex/branch"
	"vertex/check"
	"vertex/model"
	"vertex/mps"
)

// A second telling of the promises' words: of each row of the table its own pattern, in which NAME and the numbers are put, and a second reader, which is made of the same rows as a regular expression.

// textOf tells a number as a fraction.
func textOf(a api.Rat) string { return toBig(a).RatString() }

func mustBeWhole(p api.Problem) bool {
	return slices.ContainsFunc(p.Vars, func(v api.Var) bool { return v.Whole })
}

// secondly answers a text, secondlyMps one of the other format.
func secondly(text string) outcome {
	p, err := model.Read(text)
	return secondAnswer(p, err)
}

func secondlyMps(text string) outcome {
	p, err := mps.Read(text)
	return secondAnswer(p, err)
}

func secondAnswer(p api.Problem, err error) outcome {
	if err != nil {
		return outcome{fmt.Sprintf("error %v\n", err), 2}
	}
	if mustBeWhole(p) {
		return secondSearch(p)
	}
	c := back.Solve(p)
	if err := check.Check(p, c); err != nil {
		return outcome{fmt.Sprintf("error %v\n", err), 3}
	}
	return outcome{certText(p, c), 0}
}

func secondSearch(p api.Problem) outcome {
	s, err := branch.Run(p, 1000)
	if err != nil {
		return outcome{fmt.Sprintf("error %v\n", err), 2}
	}
	if s.Verdict == api.Stopped {
		return outcome{fmt.Sprintf("stopped\nnodes %d\nend\n", s.Nodes), 1}
	}
	if err := branch.Check(p, s); err != nil {
		return outcome{fmt.Sprintf("error %v\n", err), 3}
	}
	switch s.Verdict {
	case api.Optimal:
		return outcome{fmt.Sprintf("optimal\nvalue %s\n%snodes %d\nend\n", textOf(s.Value), ofVars(p, s.X), s.Nodes), 0}
	case api.Infeasible:
		return outcome{fmt.Sprintf("infeasible\nnodes %d\nend\n", s.Nodes), 0}
	}
	return outcome{fmt.Sprintf("unbounded\n%snodes %d\nend\n", ofVarsAlong(p, s.X, s.Ray), s.Nodes), 0}
}

// certText tells a certificate of one of the three verdicts.
func certText(p api.Problem, c api.Cert) string {
	switch c.Verdict {
	case api.Optimal:
		return fmt.Sprintf("optimal\nvalue %s\n%s%send\n", textOf(c.Value), ofVars(p, c.X), ofRows(p, c.Y))
	case api.Infeasible:
		return fmt.Sprintf("infeasible\n%send\n", ofRows(p, c.Y))
	}
	return fmt.Sprintf("unbounded\n%send\n", ofVarsAlong(p, c.X, c.Ray))
}

func ofVars(p api.Problem, x []api.Rat) (s string) {
	for j, v := range p.Vars {
		s += fmt.Sprintf("var %s %s\n", v.Name, textOf(x[j]))
	}
	return s
}

func ofVarsAlong(p api.Problem, x, ray []api.Rat) (s string) {
	for j, v := range p.Vars {
		s += fmt.Sprintf("var %s %s %s\n", v.Name, textOf(x[j]), textOf(ray[j]))
	}
	return s
}

func ofRows(p api.Problem, y []api.Rat) (s string) {
	for i, row := range p.Rows {
		s += fmt.Sprintf("row %s %s\n", row.Name, textOf(y[i]))
	}
	return s
}

// runesOf makes a rune of each byte, as patterns are of runes and a name is of any bytes.
func runesOf(s string) string {
	var r []rune
	for _, b := range []byte(s) {
		r = append(r, rune(b))
	}
	return string(r)
}

// patterns are, of each verdict, what an answer of a problem looks like; a number is any bytes without a blank and a line feed.
func patterns(p api.Problem) map[int]*regexp.Regexp {
	const number = `([^ \n]*)`
	vars, along, rows := "", "", ""
	for _, v := range p.Vars {
		name := regexp.QuoteMeta(runesOf(v.Name))
		vars += "var " + name + " " + number + "\n"
		along += "var " + name + " " + number + " " + number + "\n"
	}
	for _, row := range p.Rows {
		rows += "row " + regexp.QuoteMeta(runesOf(row.Name)) + " " + number + "\n"
	}
	made := func(s string) *regexp.Regexp { return regexp.MustCompile(`\A` + s + `\z`) }
	return map[int]*regexp.Regexp{
		api.Optimal:    made("optimal\nvalue " + number + "\n" + vars + rows + "end\n"),
		api.Infeasible: made("infeasible\n" + rows + "end\n"),
		api.Unbounded:  made("unbounded\n" + along + "end\n"),
	}
}

// secondReader gives what reads answers of a problem: false, if one is none.
func secondReader(p api.Problem) func(out string) (api.Cert, bool) {
	known := patterns(p)
	return func(out string) (api.Cert, bool) {
		for verdict, pattern := range known {
			groups := pattern.FindStringSubmatch(runesOf(out))
			if groups == nil || mustBeWhole(p) {
				continue
			}
			return secondCert(p, verdict, groups[1:])
		}
		return api.Cert{}, false
	}
}

// secondCert makes a certificate of the numbers of an answer; false, if one of them isn't told in the one way.
func secondCert(p api.Problem, verdict int, words []string) (api.Cert, bool) {
	var l []api.Rat
	for _, word := range words {
		n, ok := new(big.Rat).SetString(word)
		if !ok || n.RatString() != word {
			return api.Cert{}, false
		}
		l = append(l, fromBig(n))
	}
	c := api.Cert{Verdict: verdict}
	switch verdict {
	case api.Optimal:
		c.Value, c.X, c.Y = l[0], l[1:1+len(p.Vars)], l[1+len(p.Vars):]
	case api.Infeasible:
		c.Y = l
	case api.Unbounded:
		for j := range p.Vars {
			c.X, c.Ray = append(c.X, l[2*j]), append(c.Ray, l[2*j+1])
		}
	}
	return c, true
}

// kindOf tells what an answer is of: its first word, and whether something must be whole; of an error its text without the place.
func kindOf(o outcome) string {
	first, rest, _ := strings.Cut(o.text, "\n")
	if message, isError := strings.CutPrefix(first, "error "); isError {
		return message[strings.Index(message, "vertex:"):]
	}
	if strings.Contains("\n"+rest, "\nnodes ") {
		return "whole " + first
	}
	return first
}

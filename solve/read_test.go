package solve_test

import (
	"slices"
	"strings"
	"testing"

	"vertex/api"
	"vertex/check"
	"vertex/solve"
)

// P19.7: the chapter's answers, as certificates.
func TestReadExamples(t *testing.T) {
	p := problem(example)
	reads(t, p, lines("optimal", "value 11", "var x 3", "var y 1", "row c1 2", "row c2 0", "end"), "optimal, value 11, X 3 1, Y 2 0")
	p = problem("min x subject to x >= 1 -x >= 0 end")
	reads(t, p, lines("infeasible", "row R1 1", "row R2 1", "end"), "infeasible, Y 1 1")
	p = problem("max x + y subject to x - y = 0 end")
	reads(t, p, lines("unbounded", "var x 0 1", "var y 0 1", "end"), "unbounded, X 0 0, Ray 1 1")
}

// P19.7: problems without variables, without rows, without both; numbers of all kinds, and long ones.
func TestReadAnswers(t *testing.T) {
	reads(t, api.Problem{}, lines("optimal", "value 0", "end"), "optimal, value 0")
	reads(t, api.Problem{}, lines("infeasible", "end"), "infeasible")
	reads(t, api.Problem{}, lines("unbounded", "end"), "unbounded")
	p := problem("min x st end")
	reads(t, p, lines("optimal", "value -1/2", "var x -7", "end"), "optimal, value -1/2, X -7")
	reads(t, p, lines("infeasible", "end"), "infeasible")
	reads(t, p, lines("unbounded", "var x 0 -22/7", "end"), "unbounded, X 0, Ray -22/7")
	p = problem("min st 1 >= 0 end")
	reads(t, p, lines("optimal", "value 0", "row R1 0", "end"), "optimal, value 0, Y 0")
	reads(t, p, lines("infeasible", "row R1 -1/3", "end"), "infeasible, Y -1/3")
	reads(t, p, lines("unbounded", "end"), "unbounded")
	long := "-1" + strings.Repeat("0", 500) + "/" + strings.Repeat("3", 400)
	reads(t, p, lines("infeasible", "row R1 "+long, "end"), "infeasible, Y "+long)
}

// P19.7: names are those of the problem, whatever bytes they have, and whoever else has them.
func TestReadNames(t *testing.T) {
	p := api.Problem{Name: "z", Vars: []api.Var{{Name: "x"}, {Name: "x"}, {Name: ""}, {Name: "x 1\nvar y"}}, Rows: []api.Row{{Name: "\xff "}, {Name: "end\n"}, {Name: "1"}}}
	reads(t, p, "optimal\nvalue 1\nvar x 2\nvar x 3\nvar  4\nvar x 1\nvar y 5\nrow \xff  6\nrow end\n 7\nrow 1 8\nend\n", "optimal, value 1, X 2 3 4 5, Y 6 7 8")
	reads(t, p, "infeasible\nrow \xff  6\nrow end\n 7\nrow 1 8\nend\n", "infeasible, Y 6 7 8")
	reads(t, p, "unbounded\nvar x 2 -2\nvar x 3 -3\nvar  4 -4\nvar x 1\nvar y 5 -5\nend\n", "unbounded, X 2 3 4 5, Ray -2 -3 -4 -5")
	refuses(t, p, "unbounded\nvar x 2 -2\nvar x 3 -3\nvar 4 -4\nvar x 1\nvar y 5 -5\nend\n")
	refuses(t, p, "infeasible\nrow \xff 6\nrow end\n 7\nrow 1 8\nend\n")
	refuses(t, p, "infeasible\nrow \xfe  6\nrow end\n 7\nrow 1 8\nend\n")
	// Names great and small are others, and so are a part of one and more than one.
	p = problem("min Abc st R: Abc >= 1 end")
	reads(t, p, lines("optimal", "value 1", "var Abc 1", "row R 1", "end"), "optimal, value 1, X 1, Y 1")
	for _, name := range []string{"abc", "Ab", "Abcd", "bc", "R", "", "Abc Abc"} {
		refuses(t, p, lines("optimal", "value 1", "var "+name+" 1", "row R 1", "end"))
	}
	for _, name := range []string{"r", "R1", "RR", "Abc", "", "R R"} {
		refuses(t, p, lines("optimal", "value 1", "var Abc 1", "row "+name+" 1", "end"))
	}
}

// P19.7: what is told needs not be true; that the checker says.
func TestReadWhatIsNotTrue(t *testing.T) {
	p := problem(example)
	for out, want := range map[string]error{
		"optimal|value 11|var x 3|var y 1|row c1 2|row c2 0|end|":    nil,
		"optimal|value 12|var x 3|var y 1|row c1 2|row c2 0|end|":    api.ErrValue,
		"optimal|value 14|var x 4|var y 1|row c1 2|row c2 0|end|":    api.ErrPoint,
		"optimal|value 9|var x 3|var y 0|row c1 2|row c2 0|end|":     api.ErrBound,
		"optimal|value 11|var x 3|var y 1|row c1 -2|row c2 1/2|end|": api.ErrBound,
		"infeasible|row c1 1|row c2 1|end|":                          api.ErrBound,
		"infeasible|row c1 0|row c2 0|end|":                          api.ErrBound,
		"unbounded|var x 0 1|var y 0 1|end|":                         api.ErrRay,
		"unbounded|var x -1/2 0|var y 0 0|end|":                      api.ErrPoint,
	} {
		c, err := solve.Read(p, []byte(barred(out)))
		if err != nil || told(c) != told(certOf(out)) {
			t.Errorf("Read(%q) = %s, %v, want %s", out, told(c), err, told(certOf(out)))
		}
		if got := check.Check(p, c); got != want {
			t.Errorf("Check of %q: %v, want %v", out, got, want)
		}
	}
}

// certOf reads an answer of the chapter's first example in a loose way: word by word.
func certOf(out string) (c api.Cert) {
	for _, line := range strings.Split(out, "|") {
		switch words := strings.Fields(line); {
		case line == "" || line == "end":
		case words[0] == "value":
			c.Value = num(words[1])
		case words[0] == "row":
			c.Y = append(c.Y, num(words[2]))
		case words[0] == "var":
			c.X = append(c.X, num(words[2]))
			if len(words) > 3 {
				c.Ray = append(c.Ray, num(words[3]))
			}
		default:
			c.Verdict = 1 + slices.Index([]string{"optimal", "infeasible", "unbounded"}, line)
		}
	}
	return c
}

// right are answers of the chapter's first problem, line by line, one of each kind.
func right() [][]string {
	return [][]string{
		{"optimal", "value 11", "var x 3", "var y 1", "row c1 2", "row c2 0", "end"},
		{"infeasible", "row c1 1/2", "row c2 -3", "end"},
		{"unbounded", "var x 0 1", "var y 1/2 -7/3", "end"},
	}
}

// P19.7: a line too few, too many, in another order.
func TestReadOtherLines(t *testing.T) {
	p := problem(example)
	for _, l := range right() {
		reads(t, p, lines(l...), told(certOf(strings.Join(l, "|"))))
		for k := range l {
			refuses(t, p, lines(slices.Delete(slices.Clone(l), k, k+1)...))
			refuses(t, p, lines(l[:k]...))
			refuses(t, p, lines(l[k+1:]...))
			for m := range len(l) + 1 {
				refuses(t, p, lines(slices.Insert(slices.Clone(l), m, l[k])...))
				if m < len(l) && m != k {
					other := slices.Clone(l)
					other[k], other[m] = other[m], other[k]
					refuses(t, p, lines(other...))
				}
			}
			for _, more := range []string{"", " ", "value 11", "var x 3", "var z 0", "row c3 0", "nodes 1", "end", "optimal", "error", "* remark"} {
				refuses(t, p, lines(slices.Insert(slices.Clone(l), k, more)...))
			}
		}
		refuses(t, p, lines(l...)+"\n")
		refuses(t, p, lines(l...)+lines(l...))
		refuses(t, p, lines(slices.Concat(l[:len(l)-1], []string{"nodes 1", "end"})...))
	}
}

// P19.7: a line without its line feed, or with another end; two blanks, a blank at an end, a tab.
func TestReadOtherGaps(t *testing.T) {
	p := problem(example)
	for _, l := range right() {
		text := lines(l...)
		for k := range l {
			for _, end := range []string{"", " ", "\r\n", "\n\n", " \n", "\n ", "\r", "\t\n", "|", "\v\n", "\x00\n"} {
				refuses(t, p, strings.Join(l[:k+1], "\n")+end+lines(l[k+1:]...))
			}
			refuses(t, p, lines(l[:k]...)+" "+lines(l[k:]...))
			refuses(t, p, lines(l[:k]...)+"\n"+lines(l[k:]...))
		}
		for at, b := range []byte(text) {
			if b == ' ' {
				for _, gap := range []string{"", "  ", "\t", "\n", " \t", "\u00a0", ","} {
					refuses(t, p, text[:at]+gap+text[at+1:])
				}
			}
		}
	}
}

// P19.7: another word; the words' letters are small.
func TestReadOtherWords(t *testing.T) {
	p := problem(example)
	for _, l := range right() {
		for k, line := range l {
			word, rest, _ := strings.Cut(line, " ")
			if rest != "" {
				rest = " " + rest
			}
			for _, other := range []string{"", strings.ToUpper(word), strings.ToUpper(word[:1]) + word[1:], word + "s", word[1:], "x", "optimal", "infeasible", "unbounded", "stopped", "value", "var", "row", "nodes", "end", "error"} {
				if other == word {
					continue
				}
				changed := slices.Clone(l)
				changed[k] = other + rest
				refuses(t, p, lines(changed...))
			}
		}
	}
}

// P19.7: numbers that aren't told as rat.Text tells them, wherever a number stands.
func TestReadOtherNumbers(t *testing.T) {
	p := problem(example)
	bad := []string{"", "+1", "+0", "-0", "--1", "00", "01", "-01", "0/1", "1/1", "2/2", "2/4", "-6/4", "1/0", "0/0", "1/-2", "-1/-2", "1/02", "01/2", "1/", "/2", "-", "/", "1/2/3", "1e0", "1e3", "1E3", "1e-1", "1.0", "0.5", ".5", "5.", ".", "x", "inf", "NaN", "0x1", "1_000", "1,5", "½", "٣", "1\x00", "1-", "5e9999", "1e10000", "1 ", " 1", "1 2", "4/2", "-4/1", "18446744073709551616/2", "3/18446744073709551615"}
	for _, l := range right() {
		for k, line := range l {
			words := strings.Split(line, " ")
			for m := range words {
				if m == 0 || m == 1 && words[0] != "value" {
					continue
				}
				for _, number := range []string{"0", "7", "-1", "-1/2", "22/7", "18446744073709551617/2", "10", "1/10"} {
					reads(t, p, withWord(l, k, m, number), told(certOf(strings.ReplaceAll(withWord(l, k, m, number), "\n", "|"))))
				}
				for _, number := range bad {
					refuses(t, p, withWord(l, k, m, number))
				}
			}
		}
	}
}

// withWord tells an answer's lines with another word at a place of a line.
func withWord(l []string, k, m int, word string) string {
	l = slices.Clone(l)
	words := strings.Split(l[k], " ")
	words[m] = word
	l[k] = strings.Join(words, " ")
	return lines(l...)
}

// P19.7: answers of the other kinds, and what is none.
func TestReadOtherKinds(t *testing.T) {
	for _, text := range []string{example, "min st end", "min x st end", "min x st x >= 1 -x >= 0 end"} {
		p := problem(text)
		for _, out := range []string{
			"", "\n", "end\n", "\nend\n", "0\nend\n", "1\nend\n",
			lines("stopped", "nodes 1000", "end"), lines("stopped", "end"),
			lines("infeasible", "nodes 1", "end"), lines("optimal", "value 0", "nodes 1", "end"), lines("optimal", "value 11", "var x 3", "var y 1", "nodes 1", "end"),
			lines("optimal", "end"), lines("value 0", "end"), lines("optimal", "value 0"), lines("unbounded"),
			lines("error 1:1: vertex: something else is due here"), lines("error vertex: a field that may not be"), lines("error"),
			text,
		} {
			refuses(t, p, out)
		}
	}
	// The answer of another problem, with other names or another number of them.
	refuses(t, problem("min y st y >= 1 end"), solved("min x st x >= 1 end").text)
	refuses(t, problem("min x st c: x >= 1 end"), solved("min x st x >= 1 end").text)
	refuses(t, problem("min x + y st x >= 1 end"), solved("min x st x >= 1 end").text)
	refuses(t, problem("min x st end"), solved("min x st x >= 1 end").text)
	refuses(t, problem("min y + x st end"), solved("min x + y st end").text)
}

// P19.7: problems of which a variable must be whole have no answer that is read, neither their own nor that of the problem without the condition.
func TestReadWholeProblems(t *testing.T) {
	for _, limits := range []string{"bounds x <= 5 int x", "bounds x <= 5 y <= 5 int x y", "bounds x <= 5 y <= 2 int y", "binary y", "int x", "binary u"} {
		text := "max 3 x + 2 y st c1: x + y <= 4 c2: x + 3 y <= 6 " + limits + " end"
		p := problem(text)
		refuses(t, p, solved(text).text)
		for j := range p.Vars {
			p.Vars[j].Whole = false
		}
		out := solved(strings.NewReplacer("int x y", "", "int x", "", "int y", "", "binary y", "bounds y <= 1", "binary u", "bounds u <= 1").Replace(text)).text
		if _, err := solve.Read(p, []byte(out)); err != nil {
			t.Errorf("Read(%q): %v", out, err)
		}
		p.Vars[len(p.Vars)-1].Whole = true
		refuses(t, p, out)
	}
}

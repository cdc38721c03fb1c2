package write_test

import (
	"strings"
	"testing"

	"vertex/api"
	"vertex/write"
)

// signs are all bytes of a name beyond letters and digits.
const signs = "!\"#$%&(),.;?@_'`{}~"

// illegal are texts that may not be a name: empty, no name's bytes, a digit or a point first, words and parts of words, great and small.
func illegal() []string {
	l := []string{
		"", " ", "a b", "x ", " x", "x\n", "1", "1x", "9", ".", ".x", ".5", "-x", "x-y", "+", "x+", "x:", ":", "x<", "=x", "x*y", "x/2", "/", "\\x", "x\\", "[x]", "x[1]", "^", "a|b", "x\x00", "\x00", "\xff", "é", "x²", "ſt", "in\u212a", "x\t", "x\r", "subject to", "such that",
	}
	for _, word := range strings.Fields("max maximize maximise maximum min minimize minimise minimum st s.t. st. subject to such that bounds bound general generals gen integer integers int binary binaries bin free infinity inf end") {
		l = append(l, word, strings.ToUpper(word), strings.ToUpper(word[:1])+word[1:])
	}
	return l
}

// legal are names that are all but one of those.
func legal() []string {
	l := []string{"x", "X", "e", "E5", "e5", "maxi", "mini", "stt", "s.t", "s.t.x", "subjects", "subjectto", "too", "suchthat", "thats", "bounded", "bnd", "integral", "ints", "binar", "freed", "free1", "inf1", "infinit", "ending", "_end", "end_", "R1", "R", "x.", "x1", "x.1", "a..b", "i", "IN"}
	for _, sign := range strings.Split(signs, "") {
		l = append(l, "x"+sign, "a"+sign+"7")
		if sign != "." {
			l = append(l, sign, sign+"x", sign+"1", sign+"end")
		}
	}
	return l
}

// P8.1: names that may not stand in a text: of the objective (but none), of a variable and of a row, first, last or between.
func TestIllegalNames(t *testing.T) {
	for _, name := range illegal() {
		p := chapters()
		if p.Name = name; name != "" {
			isRefused(t, p)
		}
		for i := range p.Vars {
			p := chapters()
			p.Vars[i].Name = name
			isRefused(t, p)
		}
		for i := range p.Rows {
			p := chapters()
			p.Rows[i].Name = name
			isRefused(t, p)
		}
		isRefused(t, api.Problem{Max: true, Vars: []api.Var{{Name: name}}})
		isRefused(t, api.Problem{Rows: []api.Row{{Name: name}}})
	}
}

// P8.1, P8.3: names of all kinds that may, at each place, there and back.
func TestLegalNames(t *testing.T) {
	for _, name := range legal() {
		writes(t, api.Problem{
			Name: name, Const: num("1"),
			Vars: []api.Var{{Name: name, Obj: num("2"), Whole: true}},
			Rows: []api.Row{{Name: "c", Terms: []api.Term{term(0, "3")}, Lo: has("4")}},
		}, "minimize", " "+name+": + 2 "+name+" + 1", "subject to", " c: + 3 "+name+" >= 4", "bounds", " "+name+" free", "general", " "+name, "end")
		writes(t, api.Problem{
			Vars: []api.Var{{Name: name, Lo: has("1"), Hi: has("2")}, {Name: name + "_", Hi: has("3")}},
			Rows: []api.Row{{Name: name, Terms: []api.Term{term(0, "3"), term(1, "5")}}, {Name: name + "_", Hi: has("4")}},
		}, "minimize", " + 0 "+name+" + 0 "+name+"_", "subject to", " "+name+": + 3 "+name+" + 5 "+name+"_ >= - inf", " "+name+"_: + 0 <= 4", "bounds", " 1 <= "+name+" <= 2", " - inf <= "+name+"_ <= 3", "end")
	}
}

// P8.1: a name that stands twice among the variables, or among the rows and the objective.
func TestNamesTwice(t *testing.T) {
	for i := range chapters().Vars {
		for j := range chapters().Vars {
			if p := chapters(); i != j {
				p.Vars[i].Name = p.Vars[j].Name
				isRefused(t, p)
			}
		}
	}
	for i := range chapters().Rows {
		for j := range chapters().Rows {
			if p := chapters(); i != j {
				p.Rows[i].Name = p.Rows[j].Name
				isRefused(t, p)
			}
		}
		p := chapters()
		p.Rows[i].Name = p.Name
		isRefused(t, p)
		p = chapters()
		p.Name = p.Rows[i].Name
		isRefused(t, p)
	}
	isRefused(t, api.Problem{Name: "a", Rows: []api.Row{{Name: "a"}}})
	isRefused(t, api.Problem{Rows: []api.Row{{Name: "a"}, {Name: "a"}}})
	isRefused(t, api.Problem{Vars: []api.Var{{Name: "a"}, {Name: "a"}}})
}

// P8.1: names of a row and a variable, or of the objective and a variable, may be one; and such as differ in one letter's height are two.
func TestNamesThatAreNotTwice(t *testing.T) {
	p := api.Problem{Name: "z", Vars: []api.Var{usual("z", "1"), usual("Z", "2"), usual("a", "3"), usual("A", "4")}, Rows: []api.Row{{Name: "a"}, {Name: "A"}, {Name: "Z"}}}
	writes(t, p, "minimize", " z: + 1 z + 2 Z + 3 a + 4 A", "subject to", " a: + 0 >= - inf", " A: + 0 >= - inf", " Z: + 0 >= - inf", "end")
}

// P8.1: the two empty names that the reader would fill are told apart: an objective may lack its name, a row may not, also the one that would be given R1.
func TestNamesThatLack(t *testing.T) {
	p := chapters()
	p.Name = ""
	if s, err := write.Write(p); err != nil || !strings.HasPrefix(s, "minimize\n + 2 x + 0 y - 1/3 v - 1/2\nsubject to\n") {
		t.Errorf("without the objective's name: %v\n%s", err, s)
	}
	isRefused(t, api.Problem{Rows: []api.Row{{}}})
	isRefused(t, api.Problem{Vars: []api.Var{{}}})
	isRefused(t, api.Problem{Name: "z", Rows: []api.Row{{Name: "R2"}, {}}})
}

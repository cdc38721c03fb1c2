package mps_test

import (
	"strconv"
	"strings"
	"testing"

	"vertex/api"
	"vertex/model"
	"vertex/mps"
)

// agrees asks that a text is read, or refused, as the second reader does it, and tells its error's kind.
func agrees(t *testing.T, text string) error {
	t.Helper()
	p, where := secondly(text)
	if where.why != nil {
		isRefusedAt(t, text, where)
		return where.why
	}
	isReadAs(t, text, told(p))
	return nil
}

// P9.1 to P9.3: texts of all kinds, without a fault and with some, are read as the promises' words say.
func TestTexts(t *testing.T) {
	r := chances(9)
	counts := map[error]int{}
	for range 60000 {
		lines := r.lines()
		for range r.Intn(3) {
			if len(lines) > 0 {
				lines = r.spoilt(lines)
			}
		}
		text := r.text(lines)
		if counts[agrees(t, text)]++; t.Failed() {
			return
		}
	}
	for _, why := range []error{nil, api.ErrSection, api.ErrField, api.ErrTwice, api.ErrName, api.ErrNumber, api.ErrExponent, api.ErrDivide} {
		if counts[why] < 100 {
			t.Errorf("only %d texts are of %v", counts[why], why)
		}
	}
}

// P9.1 to P9.3: all texts of few pieces, heads, words and gaps as they come.
func TestAllShortTexts(t *testing.T) {
	pieces := []string{"ROWS", "ENDATA", "NAME", "\n", " ", " N", " G", " c", "*"}
	var all func(text string, depth int)
	all = func(text string, depth int) {
		if agrees(t, text); depth == 0 || t.Failed() {
			return
		}
		for _, piece := range pieces {
			all(text+piece, depth-1)
		}
	}
	all("", 5)
}

// P9.1 to P9.3: all entries of few words under each head.
func TestAllEntries(t *testing.T) {
	words := map[string][]string{
		"OBJSENSE": {"MAX", "MIN", "x"},
		"ROWS":     {"N", "G", "c", "-", "z"},
		"COLUMNS":  {"x", "c", "n", "1", "'MARKER'", "'INTORG'"},
		"RHS":      {"c", "g", "n", "1", "z"},
		"RANGES":   {"c", "g", "n", "1", "1/0"},
		"BOUNDS":   {"UP", "FR", "BV", "x", "1", "z"},
	}
	for head, list := range words {
		var all func(entry string, depth int)
		all = func(entry string, depth int) {
			if agrees(t, lined(base(head)+entry+"|ENDATA")); depth == 0 || t.Failed() {
				return
			}
			for _, word := range list {
				all(entry+" "+word, depth-1)
			}
		}
		all("", 6)
	}
}

// P9.4, P9.5: problems of all kinds by hand are told as the promises say, or refused; what is told is read as their one form, and told again as the same text.
func TestProblemsByHand(t *testing.T) {
	r := chances(99)
	good, bad := 0, 0
	for range 8000 {
		p := r.problem()
		if hasErrName(p) {
			bad++
			isRefused(t, p)
			continue
		}
		good++
		text, err := mps.Write(p)
		if want := textOf(p); err != nil || text != want {
			t.Fatalf("Write(%s): %v\n%swant\n%s", told(p), err, text, want)
		}
		isReadAs(t, text, told(model.Tidy(p)))
		for _, q := range []api.Problem{model.Tidy(p), readingOf(text).p} {
			if again, err := mps.Write(q); err != nil || again != text {
				t.Fatalf("told again: %v\n%sand not\n%s", err, again, text)
			}
		}
	}
	if good < 3000 || bad < 800 {
		t.Errorf("only %d problems are told, %d are refused", good, bad)
	}
}

// P9.1, P9.5: what Read answers is its own Tidy; Write takes it, and Read of that is the same problem.
func TestThereAndBack(t *testing.T) {
	r := chances(999)
	good := 0
	for range 20000 {
		text := r.text(r.lines())
		p, err := mps.Read(text)
		if err != nil {
			continue
		}
		good++
		if told(model.Tidy(p)) != told(p) {
			t.Fatalf("%q: %s, whose Tidy is %s", text, told(p), told(model.Tidy(p)))
		}
		again, err := mps.Write(p)
		if err != nil {
			t.Fatalf("Write of what %q says: %v", text, err)
		}
		isReadAs(t, again, told(p))
	}
	if good < 5000 {
		t.Errorf("only %d texts are read", good)
	}
}

// P9.5: any beginning of what is told that ends with a line and lacks ENDATA is at fault one line behind its end, and nowhere else.
func TestBeginnings(t *testing.T) {
	r := chances(9999)
	for range 1500 {
		text, err := mps.Write(r.problem())
		if err != nil {
			continue
		}
		beginning := ""
		lines := strings.SplitAfter(text, "\n")
		for n, line := range lines[:len(lines)-2] {
			isRefusedAt(t, beginning, place{n + 1, 1, api.ErrSection})
			beginning += line
		}
		isRefusedAt(t, beginning, place{len(lines) - 1, 1, api.ErrSection})
		isReadAs(t, strings.TrimSuffix(text, "\n"), told(readingOf(text).p))
	}
}

// P9.5, T4: what a text in the other format says goes through this one and back.
func TestOtherFormat(t *testing.T) {
	p, err := model.Read("max z: 3x + 2y - x + 1 st x + y <= 4  3 >= x - 1  2 = y c: 1 <= x - y <= 9 bounds x >= -inf y <= 1 int y bin u end")
	if err != nil {
		t.Fatal(err)
	}
	writes(t, p, "NAME|OBJSENSE| MAX|ROWS| N z| L R1| L R2| E R3| G c|COLUMNS| x z 2| x R1 1| x R2 1| x c 1| MARKER 'MARKER' 'INTORG'| y z 2| y R1 1| y R3 1| y c -1| u z 0|RHS| RHS z -1| RHS R1 4| RHS R2 4| RHS R3 2| RHS c 1|RANGES| RHS c 8|BOUNDS| FR BND x| UP BND y 1| UP BND u 1|ENDATA|")
}

// R1: a problem of many variables, rows and terms, there and back.
func TestManyOfAll(t *testing.T) {
	r := chances(7)
	p := api.Problem{Name: "c"}
	for range 3000 {
		name := "n" + strconv.Itoa(len(p.Vars))
		p.Vars = append(p.Vars, api.Var{Name: name, Obj: r.number(), Lo: r.bound(), Hi: r.bound(), Whole: r.Intn(2) == 0})
		row := api.Row{Name: name, Lo: r.bound(), Hi: r.bound()}
		for range 5 {
			row.Terms = append(row.Terms, api.Term{Var: r.Intn(3000), Coef: r.number()})
		}
		p.Rows = append(p.Rows, row)
	}
	text, err := mps.Write(p)
	if err != nil {
		t.Fatal(err)
	}
	isReadAs(t, text, told(model.Tidy(p)))
}

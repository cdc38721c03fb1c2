package write_test

import (
	"math/big"
	"strconv"
	"testing"

	"vertex/api"
	"vertex/model"
	"vertex/write"
)

// P8.1 to P8.3: problems of all kinds by hand are told as the promises say, or refused; and what is told is read as their one form, and told again as the same text.
func TestProblemsByHand(t *testing.T) {
	r := chances(8)
	good, bad := 0, 0
	for range 8000 {
		p := r.problem()
		if hasErrName(p) {
			bad++
			isRefused(t, p)
			continue
		}
		good++
		text, err := write.Write(p)
		if want := textOf(p); err != nil || text != want {
			t.Fatalf("Write(%s): %v\n%swant\n%s", told(p), err, text, want)
		}
		isReadAs(t, text, told(model.Tidy(p)))
		for _, q := range []api.Problem{model.Tidy(p), readAgain(text)} {
			if again, err := write.Write(q); err != nil || again != text {
				t.Fatalf("told again: %v\n%sand not\n%s", err, again, text)
			}
		}
	}
	if good < 3000 || bad < 800 {
		t.Errorf("only %d problems are told, %d are refused", good, bad)
	}
}

func readAgain(text string) api.Problem {
	p, _ := model.Read(text)
	return p
}

// retold tells a problem otherwise: numbers in other forms, terms in another order and in parts, terms of no variable among them.
func (r chance) retold(p api.Problem) api.Problem {
	q := copyOf(p)
	q.Const = r.otherwise(q.Const)
	bound := func(b api.Bound) api.Bound {
		if !b.Has {
			return api.Bound{At: r.number()}
		}
		return api.Bound{Has: true, At: r.otherwise(b.At)}
	}
	for i := range q.Vars {
		v := &q.Vars[i]
		v.Obj, v.Lo, v.Hi = r.otherwise(v.Obj), bound(v.Lo), bound(v.Hi)
	}
	for i := range q.Rows {
		row := &q.Rows[i]
		row.Lo, row.Hi = bound(row.Lo), bound(row.Hi)
		var terms []api.Term
		for _, x := range row.Terms {
			part := toBig(r.number())
			rest := new(big.Rat).Sub(toBig(x.Coef), part)
			terms = append(terms, api.Term{Var: x.Var, Coef: r.otherwise(fromBig(part))}, api.Term{Var: x.Var, Coef: r.otherwise(fromBig(rest))}, api.Term{Var: len(q.Vars) + r.Intn(3), Coef: r.number()})
		}
		r.Shuffle(len(terms), func(a, b int) { terms[a], terms[b] = terms[b], terms[a] })
		row.Terms = terms
	}
	return q
}

// changed changes one thing of a problem, if it can: often its meaning, at times only how it is told.
func (r chance) changed(p api.Problem) api.Problem {
	q := copyOf(p)
	if len(q.Vars) == 0 || len(q.Rows) == 0 {
		q.Max = !q.Max
		return q
	}
	v, row := &q.Vars[r.Intn(len(q.Vars))], &q.Rows[r.Intn(len(q.Rows))]
	switch r.Intn(14) {
	case 0:
		q.Max = !q.Max
	case 1:
		q.Name += "_"
	case 2:
		q.Const = r.number()
	case 3:
		v.Name += "_"
	case 4:
		v.Obj = r.number()
	case 5:
		v.Lo = r.bound()
	case 6:
		v.Hi = r.bound()
	case 7:
		v.Whole = !v.Whole
	case 8:
		row.Name += "_"
	case 9:
		row.Lo = r.bound()
	case 10:
		row.Hi = r.bound()
	case 11:
		row.Terms = append(row.Terms, api.Term{Var: r.Intn(len(q.Vars) + 1), Coef: r.number()})
	case 12:
		q.Vars = append(q.Vars, usual("last", "0"))
	case 13:
		q.Rows = append(q.Rows, api.Row{Name: "last"})
	}
	return q
}

// P8.3: two problems have one text just if their Tidys are the same.
func TestOneText(t *testing.T) {
	r := chances(88)
	same, unlike := 0, 0
	for range 8000 {
		p := r.problem()
		text, err := write.Write(p)
		if err != nil {
			continue
		}
		if other, err := write.Write(r.retold(p)); err != nil || other != text {
			t.Fatalf("%s, told otherwise: %v\n%sand not\n%s", told(p), err, other, text)
		}
		q := r.changed(p)
		other, err := write.Write(q)
		if err != nil {
			continue
		}
		if told(model.Tidy(p)) == told(model.Tidy(q)) {
			same++
		} else {
			unlike++
		}
		if (other == text) != (told(model.Tidy(p)) == told(model.Tidy(q))) {
			t.Fatalf("%s\n%s\nare told as\n%s%s", told(p), told(q), text, other)
		}
	}
	if same < 150 || unlike < 2000 {
		t.Errorf("only %d pairs are the same, %d are unlike", same, unlike)
	}
}

// P8.3: variables in another order are another problem, also where no row and no bound speaks of them.
func TestOrderOfVariables(t *testing.T) {
	writes(t, api.Problem{Vars: []api.Var{usual("b", "0"), usual("a", "0")}, Rows: []api.Row{{Name: "c", Terms: []api.Term{term(1, "1")}, Lo: has("1")}}}, "minimize", " + 0 b + 0 a", "subject to", " c: + 1 a >= 1", "end")
	writes(t, api.Problem{Vars: []api.Var{usual("a", "0"), usual("b", "0")}, Rows: []api.Row{{Name: "c", Terms: []api.Term{term(0, "1")}, Lo: has("1")}}}, "minimize", " + 0 a + 0 b", "subject to", " c: + 1 a >= 1", "end")
}

// P8.2, P8.3: texts that a user wrote come out in the one way of telling them.
func TestTextsOfUsers(t *testing.T) {
	for text, want := range map[string]string{
		"max z: 3x + 2y - x + 1 - 1 st x + y <= 4  3 >= x - 1  2 = y bounds x >= -inf y <= 1 int y bin u end": "maximize\n z: + 2 x + 2 y + 0 u\nsubject to\n R1: + 1 x + 1 y <= 4\n R2: + 1 x <= 4\n R3: + 1 y = 2\nbounds\n x free\n 0 <= y <= 1\n 0 <= u <= 1\ngeneral\n y\n u\nend\n",
		"minimise .5 x + 1.25e1 st c: 1 <= 2 <= 3 end":                                                        "minimize\n + 1/2 x + 25/2\nsubject to\n c: - 1 <= + 0 <= 1\nend\n",
	} {
		p, err := model.Read(text)
		if err != nil {
			t.Fatalf("%q: %v", text, err)
		}
		if got, err := write.Write(p); err != nil || got != want {
			t.Errorf("%q: %v\n%swant\n%s", text, err, got, want)
		}
	}
}

// R1: a problem of many variables, rows and terms.
func TestManyOfAll(t *testing.T) {
	r := chances(888)
	var p api.Problem
	for range 3000 {
		name := "n" + strconv.Itoa(len(p.Vars))
		p.Vars = append(p.Vars, api.Var{Name: name, Obj: r.number(), Lo: r.bound(), Hi: r.bound(), Whole: r.Intn(2) == 0})
		row := api.Row{Name: name, Lo: r.bound(), Hi: r.bound()}
		for range 5 {
			row.Terms = append(row.Terms, api.Term{Var: r.Intn(3000), Coef: r.number()})
		}
		p.Rows = append(p.Rows, row)
	}
	text, err := write.Write(p)
	if err != nil {
		t.Fatal(err)
	}
	isReadAs(t, text, told(model.Tidy(p)))
}

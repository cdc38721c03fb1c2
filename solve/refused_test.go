package solve

import (
	"testing"

	"vertex/api"
	"vertex/back"
	"vertex/branch"
	"vertex/model"
	"vertex/rat"
)

// These tests stand within the package: no text leads to what the check refuses (P19.4), so that the code 3 can't be seen from outside.

func read(t *testing.T, text string) api.Problem {
	t.Helper()
	p, err := model.Read(text)
	if err != nil {
		t.Fatalf("the test's own problem is none: %v", err)
	}
	return p
}

// refusal asks for the line of an error, and for the code 3.
func refusal(t *testing.T, out []byte, code int, want error) {
	t.Helper()
	if string(out) != "error "+want.Error()+"\n" || code != 3 {
		t.Errorf("%q, %d, want the line of %v, 3", out, code, want)
	}
}

// P19.2: a certificate that check.Check refuses isn't told.
func TestRefusedCertificates(t *testing.T) {
	p := read(t, "max 3 x + 2 y st c1: x + y <= 4 c2: x + 3 y <= 6 bounds x <= 3 end")
	c := back.Solve(p)
	if out, code := certified(p, c); string(out) != "optimal\nvalue 11\nvar x 3\nvar y 1\nrow c1 2\nrow c2 0\nend\n" || code != 0 {
		t.Errorf("%q, %d", out, code)
	}
	for want, wrong := range map[error]api.Cert{
		api.ErrValue:   {Verdict: api.Optimal, Value: rat.Of(12), X: c.X, Y: c.Y},
		api.ErrPoint:   {Verdict: api.Optimal, Value: c.Value, X: []api.Rat{rat.Of(4), rat.Of(0)}, Y: c.Y},
		api.ErrBound:   {Verdict: api.Infeasible, Y: c.Y},
		api.ErrRay:     {Verdict: api.Unbounded, X: c.X, Ray: c.X},
		api.ErrShape:   {Verdict: api.Optimal, Value: c.Value, X: c.X},
		api.ErrVerdict: {Verdict: api.Stopped, X: c.X},
	} {
		out, code := certified(p, wrong)
		refusal(t, out, code, want)
	}
}

// P19.3: a search that branch.Check refuses isn't told, but one that was stopped isn't checked.
func TestRefusedSearches(t *testing.T) {
	p := read(t, "max 5x + 4y st r: 6x + 4y <= 24 s: x + 2y <= 6 bounds x <= 5 y <= 5 int x y end")
	s, err := branch.Run(p, 100)
	if err != nil {
		t.Fatal(err)
	}
	if out, code := proven(p, s); string(out) != "optimal\nvalue 20\nvar x 4\nvar y 0\nnodes 5\nend\n" || code != 0 {
		t.Errorf("%q, %d", out, code)
	}
	for want, change := range map[error]func(*api.Search){
		api.ErrValue:   func(s *api.Search) { s.Value = rat.Of(19) },
		api.ErrShape:   func(s *api.Search) { s.X = s.X[1:] },
		api.ErrPoint:   func(s *api.Search) { s.X = []api.Rat{rat.Of(6), rat.Of(0)} },
		api.ErrTree:    func(s *api.Search) { s.Tree = nil },
		api.ErrVerdict: func(s *api.Search) { s.Verdict = api.Infeasible },
		api.ErrRay:     func(s *api.Search) { s.Verdict, s.Ray = api.Unbounded, s.X },
	} {
		wrong := s
		change(&wrong)
		out, code := proven(p, wrong)
		refusal(t, out, code, want)
	}
	s.Verdict, s.Nodes = api.Stopped, 77
	if out, code := proven(p, s); string(out) != "stopped\nnodes 77\nend\n" || code != 1 {
		t.Errorf("%q, %d", out, code)
	}
}

package board_test

import (
	"testing"

	"vertex/api"
	"vertex/board"
)

// P11.9: a clone is the same, in all that may be asked, and goes on as the board would have.
func TestClone(t *testing.T) {
	b := laid(example)
	b.Cost(list("0 0 0 1 1"))
	must(t, b.Pivot(1, 0))
	c := b.Clone()
	if shown(c) != shown(b) {
		t.Errorf("%s\nwant\n%s", shown(c), shown(b))
	}
	must(t, c.Pivot(0, 1))
	basisIs(t, c, 1, 0)
	basisIs(t, b, 3, 0)
	rowIs(t, b, 0, "0 2 0 1 -1 = 2")
	rowIs(t, c, 0, "0 1 0 1/2 -1/2 = 1")
	must(t, b.Drop(0))
	basisIs(t, c, 1, 0)
	must(t, c.Drop(1))
	basisIs(t, b, -1, 0)
	b.Cost(list("5 5"))
	is(t, "the clone's worth", c.Worth(), "0")
	c.Cost(list("0 7"))
	is(t, "the clone's worth", c.Worth(), "7")
	is(t, "the board's worth", b.Worth(), "10")
	for _, s := range []api.Standard{{}, {C: list("1 2")}, {B: list("1 -2")}} {
		if b := board.New(s); shown(b.Clone()) != shown(b) {
			t.Errorf("%s\nwant\n%s", shown(b.Clone()), shown(b))
		}
	}
}

// P11.9, R4: boards and their clones, and clones of those, each changed behind the others' backs, answer as if they were alone.
func TestClonesKnowNothingOfOneAnother(t *testing.T) {
	r := chances(91)
	for range 120 {
		s := r.standard()
		boards, tellings := []*board.Board{board.New(s)}, []*plain{plainOf(s)}
		for range 25 {
			k := r.Intn(len(boards))
			if len(boards) < 5 && r.Intn(4) == 0 {
				boards, tellings = append(boards, boards[k].Clone()), append(tellings, tellings[k].another())
				continue
			}
			if errs := r.change(boards[k], tellings[k]); errs[0] != errs[1] {
				t.Fatalf("%v, want %v, of\n%s", errs[0], errs[1], shown(tellings[k]))
			}
			for k := range boards {
				same(t, boards[k], tellings[k])
			}
		}
	}
}

// R4: two boards of one standard, made side by side, know nothing of one another.
func TestTwoBoards(t *testing.T) {
	r := chances(92)
	for range 100 {
		s := r.standard()
		one, two := board.New(s), board.New(s)
		mine, other := plainOf(s), plainOf(s)
		for range 6 {
			r.change(one, mine)
			same(t, two, other)
			r.change(two, other)
			same(t, one, mine)
		}
	}
}

// Clones may be changed at the same time.
func TestClonesSideBySide(t *testing.T) {
	b := laid("2 1 0 = 4; 3 -1 5 = 6; 0 7 1 = 1; C 0 0 0")
	b.Cost(list("1 2 3 4 5 6"))
	must(t, b.Pivot(0, 0))
	before, got := shown(b), make(chan string)
	for range 8 {
		c := b.Clone()
		go func() {
			for _, at := range [][2]int{{1, 1}, {2, 2}, {0, 3}} {
				if err := c.Pivot(at[0], at[1]); err != nil {
					got <- err.Error()
					return
				}
			}
			got <- shown(c)
		}()
	}
	want := <-got
	for range 7 {
		if a := <-got; a != want {
			t.Errorf("%s\nwant\n%s", a, want)
		}
	}
	if shown(b) != before {
		t.Errorf("%s\nwant\n%s", shown(b), before)
	}
}

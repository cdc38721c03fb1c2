package board_test

import (
	"math/big"
	"testing"

	"vertex/api"
	"vertex/board"
)

// same asks a board and its second telling for all that they answer.
func same(t *testing.T, b *board.Board, p *plain) {
	t.Helper()
	if got, want := shown(b), shown(p); got != want {
		t.Fatalf("%s\nwant\n%s", got, want)
	}
}

// P11.1 to P11.8: boards of standards of all kinds, behind changes of all kinds, answer as the promises say; errors too.
func TestBoardsByHand(t *testing.T) {
	r := chances(11)
	for range 600 {
		s := r.standard()
		b, p := board.New(s), plainOf(s)
		same(t, b, p)
		for range 12 {
			if errs := r.change(b, p); errs[0] != errs[1] {
				t.Fatalf("%v, want %v, of\n%s", errs[0], errs[1], shown(p))
			}
			same(t, b, p)
		}
	}
}

// behind lays boards of standards by chance, and shows each of them at the beginning and behind each of some changes, with the costs that were told last.
func behind(r chance, rounds int, look func(s api.Standard, b *board.Board, costs []api.Rat)) {
	for range rounds {
		s := r.standard()
		b := board.New(s)
		var costs []api.Rat
		look(s, b, costs)
		for range 10 {
			if r.Intn(3) == 0 {
				costs = r.costs(b)
				b.Cost(costs)
			}
			i, j := r.place(b.Rows()), r.place(b.Cols())
			if r.Intn(9) == 0 {
				b.Drop(i)
			} else {
				b.Pivot(i, j)
			}
			look(s, b, costs)
		}
	}
}

// turned is a number of a row at the beginning, behind the turning.
func turned(b *board.Board, i int, a *big.Rat) *big.Rat {
	if b.Turned(i) {
		return new(big.Rat).Neg(a)
	}
	return a
}

// P11.10: each row, those that are gone too, is a sum of the rows at the beginning; the artificial columns have the factors.
func TestRowsAreSumsOfTheFirstOnes(t *testing.T) {
	behind(chances(111), 400, func(s api.Standard, b *board.Board, _ []api.Rat) {
		for i := range b.Rows() {
			for j := range len(s.C) + 1 {
				sum, got := whole(0), toBig(b.Right(i))
				for k := range b.Rows() {
					a := toBig(s.B[k])
					if j < len(s.C) {
						a, got = entryOf(s, k, j), toBig(b.At(i, j))
					}
					sum = plus(sum, times(toBig(b.At(i, len(s.C)+k)), turned(b, k, a)))
				}
				if sum.Cmp(got) != 0 {
					t.Fatalf("row %d, column %d: %s, want %s, of\n%s", i, j, got.RatString(), sum.RatString(), shown(b))
				}
			}
		}
	})
}

// P11.10: a basic column has 1 in its own row, and 0 in all others, those that are gone too; its reduced cost is 0; no two rows have the same.
func TestBasicColumns(t *testing.T) {
	behind(chances(112), 400, func(_ api.Standard, b *board.Board, _ []api.Rat) {
		for i, j := range b.Basis() {
			if j < 0 {
				continue
			}
			is(t, "the reduced cost of a basic column", b.Reduced(j), "0")
			for k := range b.Rows() {
				want := "0"
				if k == i {
					want = "1"
				}
				is(t, "a basic column", b.At(k, j), want)
			}
		}
		if t.Failed() {
			t.Fatal("of", shown(b))
		}
	})
}

// P11.10: reduced costs and worth, by the multipliers and the standard itself.
func TestMultipliers(t *testing.T) {
	behind(chances(113), 400, func(s api.Standard, b *board.Board, costs []api.Rat) {
		worth := whole(0)
		for i := range b.Rows() {
			worth = plus(worth, times(toBig(b.Mult(i)), toBig(s.B[i])))
		}
		is(t, "worth", b.Worth(), numberOf(fromBig(worth)))
		for j := range s.C {
			want := numberIn(costs, j)
			for i := range b.Rows() {
				want = minus(want, times(toBig(b.Mult(i)), entryOf(s, i, j)))
			}
			is(t, "a reduced cost", b.Reduced(j), numberOf(fromBig(want)))
		}
		if t.Failed() {
			t.Fatal("of", shown(b))
		}
	})
}

// meeting gives a standard's right sides such that y meets its rows.
func meeting(s api.Standard, y []api.Rat) (l []api.Rat) {
	for i := range s.B {
		sum := whole(0)
		for j := range s.C {
			sum = plus(sum, times(entryOf(s, i, j), toBig(y[j])))
		}
		l = append(l, fromBig(sum))
	}
	return l
}

// P11.10: what meets the standard's rows meets each row of the board, and costs Worth and the reduced costs of its columns together.
func TestWhatMeetsTheRows(t *testing.T) {
	r := chances(114)
	for range 400 {
		s := r.standard()
		y := r.numbers(len(s.C))
		s.B = meeting(s, y)
		b := board.New(s)
		costs := r.costs(b)
		b.Cost(costs)
		for range 8 {
			cost, worth := whole(0), toBig(b.Worth())
			for j := range y {
				cost = plus(cost, times(numberIn(costs, j), toBig(y[j])))
				worth = plus(worth, times(toBig(b.Reduced(j)), toBig(y[j])))
			}
			if cost.Cmp(worth) != 0 {
				t.Fatalf("%s costs %s, not %s, by\n%s", numbersOf(y), cost.RatString(), worth.RatString(), shown(b))
			}
			for i := range b.Rows() {
				sum := whole(0)
				for j := range y {
					sum = plus(sum, times(toBig(b.At(i, j)), toBig(y[j])))
				}
				is(t, "a row's sum", fromBig(sum), numberOf(b.Right(i)))
			}
			if t.Failed() {
				t.Fatalf("%s of\n%s", numbersOf(y), shown(b))
			}
			if i := r.place(b.Rows()); r.Intn(9) == 0 {
				b.Drop(i)
			} else {
				b.Pivot(i, r.place(b.Cols()))
			}
		}
	}
}

// P11.10: a pivot in a row, and another one there in the column that was basic, are as none.
func TestPivotAndBack(t *testing.T) {
	done := 0
	behind(chances(115), 300, func(_ api.Standard, b *board.Board, _ []api.Rat) {
		before := shown(b)
		for i, was := range b.Basis() {
			for j := range b.Cols() {
				c := b.Clone()
				if c.Pivot(i, j) != nil {
					continue
				}
				if err := c.Pivot(i, was); err != nil || shown(c) != before {
					t.Fatalf("a pivot in row %d at %d and back: %v\n%s\nwant\n%s", i, j, err, shown(c), before)
				}
				done++
			}
		}
	})
	if done < 5000 {
		t.Errorf("only %d pivots", done)
	}
}

// belowNought tells whether a row that is there has a right side below nought.
func belowNought(b *board.Board) bool {
	for i, j := range b.Basis() {
		if j >= 0 && toBig(b.Right(i)).Sign() < 0 {
			return true
		}
	}
	return false
}

// P11.10: pivots in the rows that Leave tells leave no right side below nought, and worth rises by the reduced cost times the least ratio.
func TestPivotsWhereLeaveTells(t *testing.T) {
	r := chances(116)
	done := 0
	for range 500 {
		b := board.New(r.standard())
		b.Cost(r.costs(b))
		for range 8 {
			j := r.Intn(b.Cols() + 1)
			i := b.Leave(j)
			if i < 0 {
				continue
			}
			want := plus(toBig(b.Worth()), times(toBig(b.Reduced(j)), by(toBig(b.Right(i)), toBig(b.At(i, j)))))
			before := shown(b)
			must(t, b.Pivot(i, j))
			if belowNought(b) {
				t.Fatalf("a right side below nought behind a pivot in row %d at %d of\n%s", i, j, before)
			}
			is(t, "worth", b.Worth(), numberOf(fromBig(want)))
			done++
			if r.Intn(6) == 0 {
				b.Drop(r.place(b.Rows()))
			}
		}
	}
	if done < 1000 {
		t.Errorf("only %d pivots", done)
	}
}

// Where pivots go as Enter and Leave tell, no basis comes twice: they end, and worth never rises.
func TestGoingByEnterAndLeave(t *testing.T) {
	r := chances(117)
	for range 400 {
		b := board.New(r.standard())
		b.Cost(r.costs(b))
		seen := map[string]bool{}
		for {
			j := b.Enter(b.Cols())
			i := b.Leave(j)
			if i < 0 {
				break
			}
			worth := toBig(b.Worth())
			must(t, b.Pivot(i, j))
			if key := shown(b); seen[key] || toBig(b.Worth()).Cmp(worth) > 0 {
				t.Fatalf("a board that was there, or that is worth more:\n%s", key)
			} else {
				seen[key] = true
			}
		}
	}
}

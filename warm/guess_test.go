package warm_test

import (
	"math/big"
	"slices"
	"strings"
	"testing"

	"vertex/api"
	"vertex/climb"
	"vertex/near"
	"vertex/warm"
)

// guided asks for the outcome that begins at what is guessed: as good as climb.Run's, and the one of Run and Guess.
func guided(t *testing.T, s api.Standard) {
	t.Helper()
	list := warm.Guess(s)
	if again := warm.Guess(s); !slices.Equal(again, list) {
		t.Fatalf("guessed %v, and then %v, of %v", list, again, s)
	}
	o := warm.Guided(s)
	asGood(t, s, o)
	if want := told(warm.Run(s, list)); told(o) != want {
		t.Fatalf("%s, want\n%s, of %v, guessed %v", told(o), want, s, list)
	}
}

// P16.7 to P16.9: standards of each verdict, bare ones, and rows of noughts.
func TestGuided(t *testing.T) {
	for _, text := range []string{
		made, other, "1 = -2; C 1", "1 -1 = 0; C -1 0", "1 1 = 2; 2 2 = 4; C 1 0; K 5", "1 1 = 2; 1 1 = 3; C 0 0",
		"C", "C 1; K 3", "C -1", "= 0", "= 1", "= -1", "0 0 = 0; C 1 1", "0 0 = 0; C -1 1", "0 0 = 1; C 1 1", "0 = 0; -1 = 0; C 1",
		"1/3 1/7 -1 = 2/9; 0 0 0 = 0; C 1 2 3", "1 = 1/3; 3 = 1; 6 = 2000000000000000000001/1000000000000000000000; C -1", beale,
	} {
		guided(t, standard(text))
	}
	guided(t, api.Standard{})
	guided(t, api.Standard{A: [][]api.Rat{list("1 2")}, C: list("1"), B: list("3 0 0")})
}

// spread makes a number of any size, as far as ten to the 400 and as small, now and then one from which another is hardly apart.
func (r chance) spread() api.Rat {
	n := toBig(r.number())
	scale := new(big.Rat).SetInt(new(big.Int).Exp(big.NewInt(10), big.NewInt(int64(r.Intn(401))), nil))
	switch r.Intn(6) {
	case 0:
		n = times(n, scale)
	case 1:
		n = by(n, scale)
	case 2:
		n = plus(n, by(whole(1), scale))
	}
	return r.anyForm(n)
}

// spreadOut gives a standard with numbers of any size.
func (r chance) spreadOut(s api.Standard) api.Standard {
	again := func(l []api.Rat) (c []api.Rat) {
		for range l {
			c = append(c, r.spread())
		}
		return c
	}
	c := api.Standard{B: again(s.B), C: again(s.C), K: r.spread()}
	for _, numbers := range s.A {
		c.A = append(c.A, again(numbers))
	}
	if r.Intn(2) == 0 {
		c.B = r.meeting(c, r.notBelow(len(c.C)))
	}
	return c
}

// P16.7 to P16.9: guesses end, and what begins at them is as good as climb.Run, also with numbers beyond any float and with very small ones.
func TestGuidedByChance(t *testing.T) {
	r, count := chances(167), map[string]int{}
	for round := range 1200 {
		s := r.standard(5, 7)
		if round%2 == 0 {
			s = r.spreadOut(r.standard(3, 4))
		}
		guided(t, s)
		count[verdictOf(climb.Run(s))]++
	}
	enough(t, 100, count, "optimal", "infeasible", "unbounded")
}

// P16.7: numbers beyond the floats in each place, of both signs.
func TestNumbersBeyondFloats(t *testing.T) {
	beyond := []string{"1e400", "-1e400", "1e308", "-1e308", "1e-400", "-1e-400", "5e-324"}
	for _, a := range beyond {
		for _, b := range beyond {
			for _, text := range []string{"a b = 1; 1 1 = 1; C 1 0", "a 1 = b; C b 1", "a b = a; b a = b; C -1 -1", "a 0 1 = 1; b 1 0 = a; C a b a", "1 1 = a; 1 -1 = b; C 0 0"} {
				guided(t, standard(strings.NewReplacer("a", a, "b", b).Replace(text)))
			}
		}
	}
	guided(t, standard("1e9999 1e-9999 = 1e9999; C -1e9999 -1e-9999"))
	guided(t, standard("1 -1e9999 = -1e-9999; 1 1 = 1e9999; C 1e-9999 1"))
}

// asFloats gives a standard whose numbers are those of the nearest floats.
func asFloats(t *testing.T, s api.Standard) api.Standard {
	t.Helper()
	again := func(l []api.Rat) (c []api.Rat) {
		for _, a := range l {
			f, _ := near.Float(a)
			b, err := near.Exact(f)
			if err != nil {
				t.Fatal(err)
			}
			c = append(c, b)
		}
		return c
	}
	c := api.Standard{B: again(s.B), C: again(s.C)}
	for _, numbers := range s.A {
		c.A = append(c.A, again(numbers))
	}
	return c
}

// P16.7: a guess looks at floats alone: numbers whose floats are the same lead to the same guess.
func TestGuessByFloatsAlone(t *testing.T) {
	r := chances(168)
	for range 1000 {
		s := r.standard(5, 7)
		for _, numbers := range s.A {
			for j := range numbers {
				numbers[j] = fromBig(by(toBig(numbers[j]), whole(int64(1+r.Intn(9)))))
			}
		}
		c := asFloats(t, s)
		if one, other := warm.Guess(s), warm.Guess(c); !slices.Equal(one, other) {
			t.Fatalf("guessed %v of %v, and %v of its floats", one, s, other)
		}
	}
	for _, pair := range [][2]string{{"1e400", "2e500"}, {"-1e400", "-1e401"}, {"1e-400", "0"}, {"1", "1000000000000000000000000000001/1000000000000000000000000000000"}} {
		of := func(a string) []int {
			return warm.Guess(standard(strings.NewReplacer("a", a).Replace("a 1 1 = 2; 1 a 0 = 3; 2 1 -1 = a; C a -1 2")))
		}
		if one, other := of(pair[0]), of(pair[1]); !slices.Equal(one, other) {
			t.Errorf("guessed %v with %s, %v with %s", one, pair[0], other, pair[1])
		}
	}
}

// cube makes a standard of so many rows whose corners Bland's rule visits, on its way up, ever so many of: about 2.6 times as many for each two rows more.
func cube(rows int) (s api.Standard) {
	power := func(n int) *big.Rat { return new(big.Rat).SetInt(new(big.Int).Lsh(big.NewInt(1), uint(n))) }
	s.C = make([]api.Rat, 2*rows)
	for i := range rows {
		numbers := make([]api.Rat, 2*rows)
		for j := range i {
			numbers[j] = fromBig(power(1 + i - j))
		}
		numbers[i], numbers[rows+i] = num("1"), num("1")
		s.A, s.B = append(s.A, numbers), append(s.B, fromBig(power(2*i)))
		s.C[i] = fromBig(turn(power(rows - 1 - i)))
	}
	return s
}

// P16.7: a guess ends where the way up is longer than anybody can wait; P16.9: what begins at such a guess is as good.
func TestGuessGoesRoundOftenEnough(t *testing.T) {
	for _, rows := range []int{1, 2, 3, 8, 13} {
		guided(t, cube(rows))
	}
	for _, rows := range []int{20, 40, 60} {
		warm.Guess(cube(rows))
	}
}

// P16.7: a guess is free, but this one is good: of standards with small numbers nearly all that have a least value are begun where it is taken.
func TestGoodGuesses(t *testing.T) {
	r, optimal, good := chances(163), 0, 0
	for range 600 {
		s := r.standard(6, 9)
		o := climb.Run(s)
		if o.Verdict != api.Optimal {
			continue
		}
		optimal++
		if again := warm.Guided(s); len(again.Trail) == 0 && again.Pivots[1] == 0 && again.Pivots[2] == 0 {
			good++
		}
	}
	if good*10 < optimal*9 || optimal < 100 {
		t.Errorf("%d good guesses, of %d", good, optimal)
	}
}

// Guesses of many rows and columns, most of whose numbers are nought or missing, need no room for these.
func TestGuessOfManyNoughts(t *testing.T) {
	const many = 100000
	s := api.Standard{A: make([][]api.Rat, many), B: make([]api.Rat, many), C: make([]api.Rat, many)}
	s.A[7], s.B[7] = list("0 0 5"), num("3")
	s.A[9], s.B[9] = list("1 1 1"), num("3")
	if got := warm.Guess(s); !slices.Equal(got, []int{0, 2}) {
		t.Errorf("guessed %v", got)
	}
}

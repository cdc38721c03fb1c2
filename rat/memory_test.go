package rat_test

import (
	"slices"
	"testing"

	"vertex/api"
	"vertex/rat"
)

const mark = 0xabcdef

// roomy lays a number's lists at the beginning of longer ones whose spare room is marked.
func roomy(a api.Rat) api.Rat {
	lay := func(l api.Nat) api.Nat {
		list := slices.Repeat(api.Nat{mark}, len(l)+8)
		copy(list, l)
		return list[:len(l)]
	}
	return limbs(a.Num.Neg, lay(a.Num.Mag), lay(a.Den))
}

// room shows a number's lists with their spare room.
func room(a api.Rat) [2]api.Nat {
	return [2]api.Nat{a.Num.Mag[:cap(a.Num.Mag)], a.Den[:cap(a.Den)]}
}

func clone(a api.Rat) api.Rat {
	return limbs(a.Num.Neg, slices.Clone(a.Num.Mag), slices.Clone(a.Den))
}

// snapshot holds a number's lists, spare room too, and tells whether they are as they were.
func snapshot(a api.Rat) (unchanged func() bool) {
	lists := room(a)
	num, den := slices.Clone(lists[0]), slices.Clone(lists[1])
	return func() bool { return slices.Equal(lists[0], num) && slices.Equal(lists[1], den) }
}

func scribble(l api.Nat) {
	for i := range l[:cap(l)] {
		l[:cap(l)][i] = 0x5c
	}
}

// calls are all that answer numbers, each with what it answers to two numbers.
func calls() map[string]func(a, b api.Rat) []api.Rat {
	first := func(x api.Rat, err error) api.Rat { return x }
	found := func(x api.Rat, ok bool) api.Rat { return x }
	count := func(x api.Int) api.Rat { return api.Rat{Num: x} }
	return map[string]func(a, b api.Rat) []api.Rat{
		"Norm": func(a, b api.Rat) []api.Rat { return []api.Rat{rat.Norm(a), rat.Norm(b), rat.Norm(a)} },
		"Make": func(a, b api.Rat) []api.Rat {
			return []api.Rat{first(rat.Make(a.Num, b.Num)), first(rat.Make(b.Num, a.Num))}
		},
		"Neg": func(a, b api.Rat) []api.Rat { return []api.Rat{rat.Neg(a), rat.Neg(a)} },
		"Abs": func(a, b api.Rat) []api.Rat { return []api.Rat{rat.Abs(a), rat.Abs(a)} },
		"Add": func(a, b api.Rat) []api.Rat { return []api.Rat{rat.Add(a, b), rat.Add(b, a)} },
		"Sub": func(a, b api.Rat) []api.Rat { return []api.Rat{rat.Sub(a, b), rat.Sub(b, a)} },
		"Mul": func(a, b api.Rat) []api.Rat { return []api.Rat{rat.Mul(a, b), rat.Mul(a, a)} },
		"Quo": func(a, b api.Rat) []api.Rat { return []api.Rat{first(rat.Quo(a, b)), first(rat.Quo(a, a))} },
		"Inv": func(a, b api.Rat) []api.Rat { return []api.Rat{first(rat.Inv(a)), first(rat.Inv(a))} },
		"Sum": func(a, b api.Rat) []api.Rat { return []api.Rat{rat.Sum(a, b, a), rat.Sum(a), rat.Sum()} },
		"Dot": func(a, b api.Rat) []api.Rat {
			return []api.Rat{rat.Dot([]api.Rat{a, b}, []api.Rat{b, b, a}), rat.Dot(nil, nil)}
		},
		"Least": func(a, b api.Rat) []api.Rat {
			return []api.Rat{found(rat.Least(a, b)), found(rat.Least(a)), found(rat.Least(a))}
		},
		"Greatest": func(a, b api.Rat) []api.Rat { return []api.Rat{found(rat.Greatest(a, b)), found(rat.Greatest(b))} },
		"Floor":    func(a, b api.Rat) []api.Rat { return []api.Rat{count(rat.Floor(a)), count(rat.Floor(a))} },
		"Ceil":     func(a, b api.Rat) []api.Rat { return []api.Rat{count(rat.Ceil(a)), count(rat.Ceil(a))} },
		"Simplest": func(a, b api.Rat) []api.Rat {
			return []api.Rat{first(rat.Simplest(a, b)), first(rat.Simplest(b, a)), first(rat.Simplest(a, a))}
		},
		"others": func(a, b api.Rat) []api.Rat {
			rat.Sign(a)
			rat.Cmp(a, b)
			rat.IsWhole(a)
			rat.Text(a)
			return []api.Rat{rat.Of(-9), rat.Of(-9), first(rat.Parse("-1.5")), first(rat.Parse("-1.5")), first(rat.Parse("12")), first(rat.Parse("12")), first(rat.Parse("1/3"))}
		},
	}
}

func samples() [][2]api.Rat {
	return [][2]api.Rat{
		{{}, {}}, {by(0, 1), by(7, 0)}, {by(3, 1), by(4, 1)}, {by(-7, 3), by(3, 7)}, {by(6, 4), by(-6, 4)}, {by(-8, 2), by(8, 2)}, {by(1, 3), by(1, 2)}, {by(-1, 2), by(-1, 3)}, {by(31, 100), by(33, 100)},
		{limbs(true, api.Nat{7, 0}, api.Nat{0, 0}), limbs(false, api.Nat{6, 0, 0}, api.Nat{4, 0})}, {limbs(true, nil, api.Nat{3}), by(5, 3)},
		{limbs(false, api.Nat{5, 6, 7}, api.Nat{8, 9}), limbs(false, api.Nat{5, 6, 7}, api.Nat{8, 9})}, {limbs(true, api.Nat{0, 12}, api.Nat{0, 8}), limbs(false, api.Nat{1, 2, 3, 4}, api.Nat{top, top, 0})},
	}
}

// R3: what is handed in isn't changed, nor its spare room, nor when an answer is written over.
func TestNothingHandedInIsChanged(t *testing.T) {
	for name, call := range calls() {
		for _, x := range samples() {
			a, b := roomy(x[0]), roomy(x[1])
			unchangedA, unchangedB := snapshot(a), snapshot(b)
			answers := call(a, b)
			if !unchangedA() || !unchangedB() {
				t.Fatalf("%s of %v changed what it was handed: %v %v", name, x, room(a), room(b))
			}
			for _, y := range answers {
				scribble(y.Num.Mag)
				scribble(y.Den)
			}
			if !unchangedA() || !unchangedB() {
				t.Fatalf("%s of %v answers what it was handed", name, x)
			}
		}
	}
}

// R3: no list of an answer shares anything with another one, spare room neither, and nothing is kept from call to call.
func TestAnswersShareNothing(t *testing.T) {
	for name, call := range calls() {
		for _, x := range samples() {
			var lists []api.Nat
			answers := append(call(x[0], x[1]), call(x[0], x[1])...)
			for _, y := range answers {
				lists = append(lists, y.Num.Mag, y.Den)
			}
			for i := range lists {
				var want []api.Nat
				for _, l := range lists {
					want = append(want, slices.Clone(l))
				}
				scribble(lists[i])
				for j := range lists {
					if j != i && !slices.Equal(lists[j], want[j]) {
						t.Fatalf("%s of %v: lists %d and %d share memory", name, x, i, j)
					}
				}
				copy(lists[i], want[i])
			}
			for i, y := range call(x[0], x[1]) {
				is(t, name+" once more", y, answers[i])
			}
		}
	}
}

// R3: the lists of two numbers are parts of one list, one upon the other.
func TestNumbersThatShareMemory(t *testing.T) {
	list := api.Nat{5, 0, 7, top, 3, half}
	for name, call := range calls() {
		for i := range list {
			for j := range list {
				a, b := limbs(true, list[:i], list[j:]), limbs(false, list[j:], list[i:])
				want := call(clone(a), clone(b))
				for k, got := range call(a, b) {
					is(t, name, got, want[k])
				}
			}
		}
	}
	if !slices.Equal(list, api.Nat{5, 0, 7, top, 3, half}) {
		t.Error("the list has changed:", list)
	}
}

// R3: the lists that the numbers stand in are handed in, too.
func TestListsOfNumbersStay(t *testing.T) {
	fresh := func() []api.Rat {
		return []api.Rat{by(-6, 4), limbs(true, nil, nil), limbs(false, api.Nat{18, 6, 0}, api.Nat{2}), by(7, 0)}
	}
	l, m := fresh(), fresh()
	rat.Sum(l...)
	rat.Dot(l, m)
	rat.Dot(l, l)
	least, _ := rat.Least(l...)
	scribble(least.Num.Mag)
	scribble(least.Den)
	greatest, _ := rat.Greatest(l...)
	scribble(greatest.Num.Mag)
	scribble(greatest.Den)
	for i, want := range fresh() {
		is(t, "the list", l[i], want)
		is(t, "the second list", m[i], want)
	}
}

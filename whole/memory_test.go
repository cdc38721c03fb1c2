package whole_test

import (
	"slices"
	"testing"

	"vertex/api"
	"vertex/whole"
)

const mark = 0xabcdef

// roomy lays a number's limbs at the beginning of a longer list whose spare room is marked.
func roomy(a api.Int) api.Int {
	list := slices.Repeat(api.Nat{mark}, len(a.Mag)+8)
	copy(list, a.Mag)
	return api.Int{Neg: a.Neg, Mag: list[:len(a.Mag)]}
}

// room shows a list with its spare room.
func room(a api.Nat) api.Nat { return a[:cap(a)] }

func clone(a api.Int) api.Int { return api.Int{Neg: a.Neg, Mag: slices.Clone(a.Mag)} }

func scribble(a api.Int) {
	for i := range room(a.Mag) {
		room(a.Mag)[i] = 0x5c
	}
}

// calls are all that answer numbers, each with what it answers to two numbers.
func calls() map[string]func(a, b api.Int) []api.Int {
	return map[string]func(a, b api.Int) []api.Int{
		"Norm":     func(a, b api.Int) []api.Int { return []api.Int{whole.Norm(a), whole.Norm(b), whole.Norm(a)} },
		"From":     func(a, b api.Int) []api.Int { return []api.Int{whole.From(true, a.Mag), whole.From(false, a.Mag)} },
		"Neg":      func(a, b api.Int) []api.Int { return []api.Int{whole.Neg(a), whole.Neg(a)} },
		"Abs":      func(a, b api.Int) []api.Int { return []api.Int{{Mag: whole.Abs(a)}, {Mag: whole.Abs(a)}} },
		"Add":      func(a, b api.Int) []api.Int { return []api.Int{whole.Add(a, b)} },
		"Sub":      func(a, b api.Int) []api.Int { return []api.Int{whole.Sub(a, b)} },
		"Mul":      func(a, b api.Int) []api.Int { return []api.Int{whole.Mul(a, b)} },
		"Sum":      func(a, b api.Int) []api.Int { return []api.Int{whole.Sum(a, b, a), whole.Sum(a), whole.Sum()} },
		"QuoRem":   func(a, b api.Int) []api.Int { q, r, _ := whole.QuoRem(a, b); return []api.Int{q, r} },
		"DivFloor": func(a, b api.Int) []api.Int { q, r, _ := whole.DivFloor(a, b); return []api.Int{q, r} },
		"others": func(a, b api.Int) []api.Int {
			whole.Int64(a)
			whole.Sign(a)
			whole.Cmp(a, b)
			whole.Text(a)
			p, _ := whole.Parse("-12345678901234567890123")
			return []api.Int{p, whole.Of(-9), whole.Of(-9)}
		},
	}
}

func samples() [][2]api.Int {
	return [][2]api.Int{
		{above(), above()}, {below(), below()}, {above(7), above(3)}, {below(7), above(3)}, {above(7), below(3)}, {below(7), below(3)},
		{above(7), above()}, {above(), below(7)}, {below(7, 0), below(0, 0)}, {above(3), below(7)}, {below(6, 0, 0), above(4, 0)},
		{above(5, 6, 7), below(5, 6, 7)}, {above(5, 6, 7), above(5, 6, 7)}, {below(0, 0, 12), above(0, 8)},
		{above(1, 2, 3, 4, 5), below(9, 8, 7)}, {below(9, 8, 7), above(1, 2, 3, 4, 5)}, {below(top, top, top, top, 0), below(1)},
	}
}

// R3: what is handed in isn't changed, nor its spare room, nor when an answer is written over.
func TestNothingHandedInIsChanged(t *testing.T) {
	for name, call := range calls() {
		for _, x := range samples() {
			a, b := roomy(x[0]), roomy(x[1])
			wantA, wantB := slices.Clone(room(a.Mag)), slices.Clone(room(b.Mag))
			answers := call(a, b)
			if !slices.Equal(room(a.Mag), wantA) || !slices.Equal(room(b.Mag), wantB) {
				t.Fatalf("%s of %v changed what it was handed: %v %v", name, x, room(a.Mag), room(b.Mag))
			}
			for _, y := range answers {
				scribble(y)
			}
			if !slices.Equal(room(a.Mag), wantA) || !slices.Equal(room(b.Mag), wantB) {
				t.Fatalf("%s of %v answers what it was handed", name, x)
			}
		}
	}
}

// R3: an answer shares nothing with another one, spare room neither, and nothing is kept from call to call.
func TestAnswersShareNothing(t *testing.T) {
	for name, call := range calls() {
		for _, x := range samples() {
			first, again := call(x[0], x[1]), call(x[0], x[1])
			for i := range first {
				var want []api.Int
				for _, y := range first {
					want = append(want, clone(y))
				}
				scribble(first[i])
				for j := range first {
					if j != i && !same(first[j], want[j]) {
						t.Fatalf("%s of %v: answers %d and %d share memory", name, x, i, j)
					}
				}
				is(t, name+" the second time", again[i], want[i])
				copy(first[i].Mag, want[i].Mag)
			}
		}
	}
}

// R3: two numbers of one list of limbs, one upon the other.
func TestNumbersThatShareMemory(t *testing.T) {
	list := api.Nat{5, 0, 7, top, 3, half, 1, 9}
	for name, call := range calls() {
		for i := range list {
			for j := range list {
				a, b := below(list[:i]...), above(list[j:]...)
				want := call(clone(a), clone(b))
				for k, got := range call(a, b) {
					is(t, name, got, want[k])
				}
			}
			a, b := above(list[i:]...), below(list[i:]...)
			want := call(clone(a), clone(b))
			for k, got := range call(a, b) {
				is(t, name, got, want[k])
			}
		}
	}
	is(t, "the list", above(list...), above(5, 0, 7, top, 3, half, 1, 9))
}

// R3: the list of Sum's numbers is handed in, too, signs and limbs.
func TestSumLeavesItsList(t *testing.T) {
	l := []api.Int{below(0, 12, 0), below(), above(18, 6), below(30, 0, 0)}
	want := []api.Int{below(0, 12, 0), below(), above(18, 6), below(30, 0, 0)}
	scribble(whole.Sum(l...))
	scribble(whole.Sum(l[:1]...))
	for i := range want {
		is(t, "Sum's list", l[i], want[i])
	}
}

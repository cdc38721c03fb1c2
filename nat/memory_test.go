package nat_test

import (
	"slices"
	"testing"

	"vertex/api"
	"vertex/nat"
)

const mark = 0xabcdef

// roomy lays a number at the beginning of a longer list whose spare room is marked.
func roomy(a api.Nat) api.Nat {
	list := slices.Repeat(api.Nat{mark}, len(a)+8)
	copy(list, a)
	return list[:len(a)]
}

// whole shows a list with its spare room.
func whole(a api.Nat) api.Nat { return a[:cap(a)] }

// calls are all that answer numbers, each with what it answers to two numbers.
func calls() map[string]func(a, b api.Nat) []api.Nat {
	one := func(x api.Nat, _ error) []api.Nat { return []api.Nat{x} }
	return map[string]func(a, b api.Nat) []api.Nat{
		"Norm":   func(a, b api.Nat) []api.Nat { return []api.Nat{nat.Norm(a), nat.Norm(b), nat.Norm(a)} },
		"Add":    func(a, b api.Nat) []api.Nat { return []api.Nat{nat.Add(a, b)} },
		"Sub":    func(a, b api.Nat) []api.Nat { return one(nat.Sub(a, b)) },
		"Mul":    func(a, b api.Nat) []api.Nat { return []api.Nat{nat.Mul(a, b)} },
		"DivMod": func(a, b api.Nat) []api.Nat { q, r, _ := nat.DivMod(a, b); return []api.Nat{q, r} },
		"Gcd":    func(a, b api.Nat) []api.Nat { return []api.Nat{nat.Gcd(a, b), nat.Gcd(a), nat.Gcd(a, b, a)} },
		"Shl 0":  func(a, b api.Nat) []api.Nat { return one(nat.Shl(a, 0)) },
		"Shl 70": func(a, b api.Nat) []api.Nat { return one(nat.Shl(a, 70)) },
		"Shr 0":  func(a, b api.Nat) []api.Nat { return one(nat.Shr(a, 0)) },
		"Shr 64": func(a, b api.Nat) []api.Nat { return one(nat.Shr(a, 64)) },
		"Shr 70": func(a, b api.Nat) []api.Nat { return one(nat.Shr(a, 70)) },
		"Pow 0":  func(a, b api.Nat) []api.Nat { return one(nat.Pow(a, 0)) },
		"Pow 1":  func(a, b api.Nat) []api.Nat { return one(nat.Pow(a, 1)) },
		"Pow 3":  func(a, b api.Nat) []api.Nat { return one(nat.Pow(a, 3)) },
		"others": func(a, b api.Nat) []api.Nat {
			nat.Uint64(a)
			nat.Bits(a)
			nat.Cmp(a, b)
			nat.Text(a)
			for range nat.Digits(a) {
			}
			c, _ := nat.Choose(6, 3)
			p, _ := nat.Parse("12345678901234567890123")
			return []api.Nat{c, p, nat.Of(9), nat.Of(9)}
		},
	}
}

func samples() [][2]api.Nat {
	return [][2]api.Nat{
		{nil, nil}, {{7}, {3}}, {{7}, nil}, {nil, {7}}, {{7, 0}, {0, 0}}, {{3}, {7}}, {{6, 0, 0}, {4, 0}}, {{5, 6, 7}, {5, 6, 7}},
		{{0, 0, 12}, {0, 8}}, {{1, 2, 3, 4, 5}, {9, 8, 7}}, {{9, 8, 7}, {1, 2, 3, 4, 5}}, {{top, top, top, top, 0}, {1}},
	}
}

// R3: what is handed in isn't changed, nor its spare room, nor when an answer is written over.
func TestNothingHandedInIsChanged(t *testing.T) {
	for name, call := range calls() {
		for _, x := range samples() {
			a, b := roomy(x[0]), roomy(x[1])
			wantA, wantB := slices.Clone(whole(a)), slices.Clone(whole(b))
			answers := call(a, b)
			if !slices.Equal(whole(a), wantA) || !slices.Equal(whole(b), wantB) {
				t.Fatalf("%s of %v changed what it was handed: %v %v", name, x, whole(a), whole(b))
			}
			for _, y := range answers {
				scribble(y)
			}
			if !slices.Equal(whole(a), wantA) || !slices.Equal(whole(b), wantB) {
				t.Fatalf("%s of %v answers what it was handed", name, x)
			}
		}
	}
}

func scribble(a api.Nat) {
	for i := range whole(a) {
		whole(a)[i] = 0x5c
	}
}

// R3: an answer shares nothing with another one, spare room neither, and nothing is kept from call to call.
func TestAnswersShareNothing(t *testing.T) {
	for name, call := range calls() {
		for _, x := range samples() {
			first, again := call(x[0], x[1]), call(x[0], x[1])
			for i := range first {
				want := make([]api.Nat, len(first))
				for j := range first {
					want[j] = slices.Clone(first[j])
				}
				scribble(first[i])
				for j := range first {
					if j != i && !slices.Equal(first[j], want[j]) {
						t.Fatalf("%s of %v: answers %d and %d share memory", name, x, i, j)
					}
				}
				if !slices.Equal(again[i], want[i]) {
					t.Fatalf("%s of %v: %v the first time, then %v", name, x, want[i], again[i])
				}
				copy(first[i], want[i])
			}
		}
	}
}

// R3: two numbers of one list, one upon the other.
func TestNumbersThatShareMemory(t *testing.T) {
	list := api.Nat{5, 0, 7, top, 3, half, 1, 9}
	for name, call := range calls() {
		for i := range list {
			for j := range list {
				a, b := list[:i], list[j:]
				want := call(slices.Clone(a), slices.Clone(b))
				for k, got := range call(a, b) {
					is(t, name, got, want[k])
				}
				a, b = list[i:], list[i:]
				want = call(slices.Clone(a), slices.Clone(b))
				for k, got := range call(a, b) {
					is(t, name, got, want[k])
				}
			}
		}
	}
	is(t, "the list", list, api.Nat{5, 0, 7, top, 3, half, 1, 9})
}

// R3: the list of Gcd's numbers is handed in, too.
func TestGcdLeavesItsList(t *testing.T) {
	l := []api.Nat{{0, 12, 0}, nil, {18, 6}, {30, 0, 0}}
	want := []api.Nat{{0, 12, 0}, nil, {18, 6}, {30, 0, 0}}
	g := nat.Gcd(l...)
	scribble(g)
	for i := range want {
		is(t, "Gcd's list", l[i], want[i])
	}
}

// R2: with an error every other result is its zero value.
func TestZeroValuesBesideErrors(t *testing.T) {
	a := api.Nat{5, 6}
	difference, e1 := nat.Sub(a, api.Nat{6, 6})
	q, r, e2 := nat.DivMod(a, nil)
	up, e3 := nat.Shl(a, -1)
	down, e4 := nat.Shr(a, -1)
	p, e5 := nat.Pow(a, -1)
	c, e6 := nat.Choose(-1, 1)
	n, e7 := nat.Parse("12x")
	for i, err := range []error{e1, e2, e3, e4, e5, e6, e7} {
		if err == nil {
			t.Errorf("no error of call %d", i)
		}
	}
	for i, x := range []api.Nat{difference, q, r, up, down, p, c, n} {
		if x != nil {
			t.Errorf("result %d is %v beside an error", i, x)
		}
	}
}

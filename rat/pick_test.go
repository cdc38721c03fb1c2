package rat_test

import (
	"math/rand"
	"testing"

	"vertex/api"
	"vertex/rat"
)

// P3.7
func TestLeastAndGreatest(t *testing.T) {
	for _, x := range []struct {
		l               []api.Rat
		least, greatest string
	}{
		{[]api.Rat{by(1, 2), by(1, 3), by(-1, 1)}, "-1", "1/2"}, {[]api.Rat{by(1, 2), by(1, 3)}, "1/3", "1/2"}, {[]api.Rat{by(1, 3), by(1, 2)}, "1/3", "1/2"},
		{[]api.Rat{by(6, 4)}, "3/2", "3/2"}, {[]api.Rat{by(7, 0)}, "0", "0"}, {[]api.Rat{by(-7, 0), by(1, 2)}, "0", "1/2"}, {[]api.Rat{by(-1, 2), by(9, 0)}, "-1/2", "0"},
		{[]api.Rat{by(1, 3), by(2, 6), by(3, 9)}, "1/3", "1/3"}, {[]api.Rat{by(-1, 2), by(-1, 3), by(-3, 4)}, "-3/4", "-1/3"},
		{[]api.Rat{by(0, 3), limbs(true, nil, api.Nat{1}), {}}, "0", "0"}, {[]api.Rat{by(2, 1), by(5, 1), by(3, 1), by(1, 1), by(4, 1)}, "1", "5"},
	} {
		least, ok := rat.Least(x.l...)
		tells(t, "Least", least, x.least)
		greatest, ok2 := rat.Greatest(x.l...)
		tells(t, "Greatest", greatest, x.greatest)
		if !ok || !ok2 {
			t.Errorf("there is one in %v", x.l)
		}
	}
	r := rand.New(rand.NewSource(23))
	for n := range 60 {
		l := make([]api.Rat, n+1)
		for i := range l {
			l[i] = some(r, 3)
		}
		low, high := toBig(l[0]), toBig(l[0])
		for _, a := range l {
			if n := toBig(a); n.Cmp(low) < 0 {
				low = n
			}
			if n := toBig(a); n.Cmp(high) > 0 {
				high = n
			}
		}
		least, _ := rat.Least(l...)
		isBig(t, "Least", least, low)
		greatest, _ := rat.Greatest(l...)
		isBig(t, "Greatest", greatest, high)
	}
}

// P3.7
func TestLeastAndGreatestOfNone(t *testing.T) {
	for _, l := range [][]api.Rat{nil, {}} {
		least, ok := rat.Least(l...)
		isZero(t, "Least of none", least)
		greatest, ok2 := rat.Greatest(l...)
		isZero(t, "Greatest of none", greatest)
		if ok || ok2 {
			t.Error("there is one among none")
		}
	}
}

package near_test

import (
	"math"
	"math/big"
	"strconv"
	"strings"
	"testing"

	"vertex/api"
	"vertex/near"
	"vertex/rat"
)

// A grid is so fine that all floats, the middles between them and all decimals that come into question stand on it as whole numbers.
const gridTwos, gridTens = 1075, 345

func power(base int64, n int) *big.Int {
	return new(big.Int).Exp(big.NewInt(base), big.NewInt(int64(n)), nil)
}

// decimal is 10^x on the grid.
func decimal(x int) *big.Int {
	return new(big.Int).Mul(power(10, x+gridTens), power(2, gridTwos))
}

// onGrid is half of the sum of two floats on the grid: of a float and itself that float.
func onGrid(f, g float64) *big.Int {
	half := new(big.Rat).Mul(sum(value(f), value(g)), big.NewRat(1, 2))
	half.Mul(half, new(big.Rat).SetInt(decimal(0)))
	if !half.IsInt() {
		panic("the test's own grid is too coarse")
	}
	return half.Num()
}

// shortestOf gives the shortest decimal of a float above nought by the words of P4.5: of all with so many digits that are read as f the nearest, of two alike the even one.
func shortestOf(f float64) (d *big.Int, x int) {
	_, text, _ := strings.Cut(strconv.FormatFloat(f, 'e', 16, 64), "e")
	first, _ := strconv.Atoi(text)
	at := onGrid(f, f)
	low, high := onGrid(math.Nextafter(f, 0), f), onGrid(f, math.Nextafter(f, inf))
	// The ends themselves are ties, and read as the even float.
	even := math.Float64bits(f)%2 == 0
	reads := func(g *big.Int) bool {
		return g.Cmp(low) > 0 && g.Cmp(high) < 0 || even && (g.Cmp(low) == 0 || g.Cmp(high) == 0)
	}
	for n := 1; ; n++ {
		var far *big.Int
		// More powers than can be are looked at, as the library's may be rounded.
		for p := first - n - 1; p <= first-n+3; p++ {
			unit := decimal(p)
			below := new(big.Int).Quo(at, unit)
			for _, e := range []*big.Int{below, new(big.Int).Add(below, big.NewInt(1))} {
				g := new(big.Int).Mul(e, unit)
				if text := e.String(); len(text) != n || strings.HasSuffix(text, "0") || !reads(g) {
					continue
				}
				away := g.Sub(g, at)
				away.Abs(away)
				if far == nil || away.Cmp(far) < 0 || away.Cmp(far) == 0 && e.Bit(0) == 0 {
					d, x, far = e, p, away
				}
			}
		}
		if far != nil {
			return d, x
		}
	}
}

// P4.5: the chapter's examples, and what stands beside them.
func TestShow(t *testing.T) {
	for _, x := range []struct {
		f    float64
		want string
	}{
		{1.5, "15e-1"}, {100, "1e2"}, {0.1, "1e-1"}, {-2.5e-8, "-25e-9"}, {123, "123"}, {least, "5e-324"}, {-least, "-5e-324"}, {greatest, "17976931348623157e292"}, {-greatest, "-17976931348623157e292"},
		{1 << 53, "9007199254740992"}, {6004799503160661 * 0x1p-54, "3333333333333333e-16"}, {1<<50 + 0.25, "11258999068426242e-1"}, {1<<50 + 0.75, "11258999068426248e-1"}, {-(1<<50 + 0.25), "-11258999068426242e-1"},
		{0, "0"}, {minus0, "0"}, {nan, "NaN"}, {-nan, "NaN"}, {math.Float64frombits(math.MaxUint64), "NaN"}, {inf, "Inf"}, {-inf, "-Inf"},
		{1, "1"}, {-1, "-1"}, {9, "9"}, {10, "1e1"}, {-10, "-1e1"}, {101, "101"}, {110, "11e1"}, {0.5, "5e-1"}, {0.25, "25e-2"}, {12.5, "125e-1"}, {1e15, "1e15"}, {1e22, "1e22"}, {-1e-5, "-1e-5"},
		// These are below the power of ten by which they are told.
		{1e23, "1e23"}, {2 * least, "1e-323"}, {0x1p-1070, "8e-323"}, {20 * least, "1e-322"}, {normal, "22250738585072014e-324"}, {normal - least, "2225073858507201e-323"},
		{0.1 + 0x1p-56, "10000000000000002e-17"}, {0.30000000000000004, "30000000000000004e-17"}, {5e-324 * 3, "15e-324"}, {1.7976931348623155e308, "17976931348623155e292"}, {9007199254740993e1, "9007199254740994e1"},
	} {
		if s := near.Show(x.f); s != x.want {
			t.Errorf("Show(%x): %s, want %s", x.f, s, x.want)
		}
	}
}

// P4.5: held against the words of the promise.
func TestShowOfManyFloats(t *testing.T) {
	few, many, small := 0, 0, 0
	for f := range floats {
		d, x := shortestOf(f)
		want := d.String()
		switch len(want) {
		case 1:
			few++
		case 17:
			many++
		}
		if f < normal {
			small++
		}
		if x != 0 {
			want += "e" + strconv.Itoa(x)
		}
		if s := near.Show(f); s != want {
			t.Fatalf("Show(%x): %s, want %s", f, s, want)
		}
		if s := near.Show(-f); s != "-"+want {
			t.Fatalf("Show(%x): %s, want -%s", -f, s, want)
		}
	}
	if few < 400 || many < 1000 || small < 1000 {
		t.Errorf("only %d floats of one digit, %d of seventeen, %d of fewer bits", few, many, small)
	}
}

// P4.6: what literals say.
func TestRead(t *testing.T) {
	for s, want := range map[string]float64{
		"0.1": 0.1, "1/3": 6004799503160661 * 0x1p-54, "-1/3": -6004799503160661 * 0x1p-54, "1e400": inf, "-1e400": -inf, "1e9999": inf, "-1e9999": -inf, "1e-400": 0, "-1e-400": 0, "1e-9999": 0, "-1e-9999": 0, "+2.50": 2.5, "-2.5e-8": -2.5e-8,
		"0": 0, "-0": 0, "+0": 0, "-0.0": 0, "0/5": 0, "-0/5": 0, "-0e9": 0, ".5": 0.5, "5.": 5, "6/4": 1.5, "9007199254740993": 1 << 53, "9007199254740995": 1<<53 + 4, "-9007199254740993": -(1 << 53), "18014398509481986/2": 1 << 53,
		"5e-324": least, "3e-324": least, "2e-324": 0, "-2e-324": 0, "17976931348623157e292": greatest, "17976931348623158e292": greatest, "17976931348623159e292": inf, "1e23": 1e23, "00012.500E+01": 125,
		strings.Repeat("9", 400): inf, "1/" + strings.Repeat("9", 400): 0, strings.Repeat("9", 400) + "/" + strings.Repeat("9", 399): 10,
	} {
		f, err := near.Read(s)
		is(t, "Read("+strconv.Quote(s)+")", f, want)
		if err != nil {
			t.Errorf("Read(%q): %v", s, err)
		}
	}
}

// P4.6, R2: the very error, and the zero value beside it.
func TestReadOfNoLiteral(t *testing.T) {
	for s, want := range map[string]error{
		"": api.ErrNumber, "inf": api.ErrNumber, "Inf": api.ErrNumber, "-Inf": api.ErrNumber, "NaN": api.ErrNumber, "0x10": api.ErrNumber, "1_000": api.ErrNumber, ".": api.ErrNumber, "-": api.ErrNumber, "1e": api.ErrNumber, "1e5.": api.ErrNumber, " 1": api.ErrNumber, "1 ": api.ErrNumber, "1.5/2": api.ErrNumber, "1/-2": api.ErrNumber, "+-1": api.ErrNumber, "1p3": api.ErrNumber, "1,5": api.ErrNumber, "\xff": api.ErrNumber,
		"1e10000": api.ErrExponent, "-1e-10000": api.ErrExponent, "0e10000": api.ErrExponent, "1e99999999999999999999": api.ErrExponent, "1e10000x": api.ErrNumber,
		"1/0": api.ErrDivide, "-0/000": api.ErrDivide, "1/0x": api.ErrNumber,
	} {
		f, err := near.Read(s)
		is(t, "Read("+strconv.Quote(s)+")", f, 0)
		if err != want {
			t.Errorf("Read(%q): %v, want %v", s, err, want)
		}
		if _, parsed := rat.Parse(s); err != parsed {
			t.Errorf("Read(%q): %v, but Parse: %v", s, err, parsed)
		}
	}
}

// P4.6: the library reads decimals, too, and math/big those with a Den.
func TestReadOfManyLiterals(t *testing.T) {
	for f := range floats {
		for _, s := range []string{strconv.FormatFloat(f, 'e', 16, 64), strconv.FormatFloat(f, 'g', 5, 64), strconv.FormatFloat(-f, 'e', 25, 64)} {
			want, _ := strconv.ParseFloat(s, 64)
			if got, err := near.Read(s); err != nil || !same(got, want+0) {
				t.Fatalf("Read(%q): %x, %v, want %x", s, got, err, want)
			}
		}
	}
	for r := range numbers {
		want, _ := nearest(r)
		if got, err := near.Read(r.String()); err != nil || !same(got, want) {
			t.Fatalf("Read(%q): %x, %v, want %x", r.String(), got, err, want)
		}
	}
}

package near

import (
	"math"
	"strconv"

	"vertex/api"
	"vertex/nat"
	"vertex/rat"
)

// Show tells a float by its shortest decimal: P4.5.
func Show(f float64) string {
	switch {
	case math.IsNaN(f):
		return "NaN"
	case f < 0:
		return "-" + showFrom0(-f)
	}
	return showFrom0(f)
}

// showFrom0 is Show for a float that isn't below nought.
func showFrom0(f float64) string {
	switch {
	case math.IsInf(f, 1):
		return "Inf"
	case f == 0:
		return "0"
	}
	d, x := shortest(f)
	text := strconv.FormatUint(d, 10)
	if x != 0 {
		text += "e" + strconv.Itoa(x)
	}
	return text
}

// shortest gives the shortest decimal d 10^x of a finite float above nought.
func shortest(f float64) (d uint64, x int) {
	m, e := split(rankOf(f))
	num, den := scale(nat.Of(m), nat.Of(1), e, twos)
search:
	for x = powerAbove(num, den); ; x-- {
		below, past := count(scale(num, den, -x, tens))
		// f has no digits as yet at a power above it.
		if below == 0 {
			continue
		}
		first := nearer(below, past)
		for _, d = range [2]uint64{first, below + below + 1 - first} {
			if reads(d, x) == f {
				break search
			}
		}
	}
	// One digit may have been rounded up to 10. No greater d ends in a nought: without it, it was tried before.
	if d == 10 {
		return 1, x + 1
	}
	return d, x
}

// powerAbove gives an x, not far off, for which 10^(x+1) is above num by den.
func powerAbove(num, den api.Nat) int {
	// The number is below 2^(size+1), and 0.30103 is a little above the logarithm of 2. Cut off towards nought it is no less than rounded down.
	size := nat.Bits(num) - nat.Bits(den)
	return (size + 1) * 30103 / 100000
}

// reads gives the float nearest to d 10^x.
func reads(d uint64, x int) float64 {
	num, den := scale(nat.Of(d), nat.Of(1), x, tens)
	f, _ := Float(api.Rat{Num: api.Int{Mag: num}, Den: den})
	return f
}

// Read reads a literal to the nearest float: P4.6.
func Read(s string) (float64, error) {
	r, err := rat.Parse(s)
	if err != nil {
		return 0, err
	}
	f, _ := Float(r)
	return f, nil
}

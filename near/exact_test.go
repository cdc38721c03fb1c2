package near_test

import (
	"math"
	"testing"

	"vertex/api"
	"vertex/near"
)

// P4.3
func TestExact(t *testing.T) {
	for f, want := range map[float64]string{
		0.1: "3602879701896397/36028797018963968", -0.1: "-3602879701896397/36028797018963968", 0: "0", 1: "1", -1: "-1", 0.5: "1/2", -2.75: "-11/4", 1e22: "10000000000000000000000", 1 << 60: "1152921504606846976", 6755399441055744: "6755399441055744",
	} {
		a, err := near.Exact(f)
		isRat(t, "Exact", a, one(number(want)))
		if err != nil {
			t.Errorf("Exact(%x): %v", f, err)
		}
	}
	a, err := near.Exact(minus0)
	isRat(t, "Exact(-0)", a, one(nothing))
	if err != nil {
		t.Errorf("Exact(-0): %v", err)
	}
	for f, want := range map[float64]api.Rat{
		least: one(two(-1074)), -least: one(neg(two(-1074))), 6 * least: one(twos(3, -1073)), normal: one(two(-1022)), normal - least: one(twos(1<<52-1, -1074)), normal + least: one(twos(1<<52+1, -1074)),
		greatest: one(twos(1<<53-1, 971)), -greatest: one(twos(1-1<<53, 971)), 0x1p1023: one(two(1023)), 0x1p-52: one(two(-52)), 1 + 0x1p-52: one(twos(1<<52+1, -52)),
	} {
		a, err := near.Exact(f)
		isRat(t, "Exact", a, want)
		if err != nil {
			t.Errorf("Exact(%x): %v", f, err)
		}
	}
}

// P4.3
func TestExactOfManyFloats(t *testing.T) {
	for f := range floats {
		a, err := near.Exact(f)
		b, no := near.Exact(-f)
		isRat(t, "Exact", a, one(value(f)))
		isRat(t, "Exact", b, one(value(-f)))
		if err != nil || no != nil || t.Failed() {
			t.Fatalf("%x: %v, %v", f, err, no)
		}
	}
}

// P4.3, R2: the very error, and the zero value beside it.
func TestExactOfWhatIsNoNumber(t *testing.T) {
	for _, f := range []float64{nan, -nan, math.Float64frombits(0x7ff0000000000001), math.Float64frombits(math.MaxUint64), inf, -inf} {
		a, err := near.Exact(f)
		if err != api.ErrFloat {
			t.Errorf("Exact(%x): %v, want %v", f, err, api.ErrFloat)
		}
		if a.Num.Neg || a.Num.Mag != nil || a.Den != nil {
			t.Errorf("Exact(%x): %v beside an error", f, a)
		}
	}
}

// P4.4
func TestNext(t *testing.T) {
	for _, x := range [][2]float64{
		{0, least}, {minus0, least}, {-least, 0}, {least, 2 * least}, {-2 * least, -least}, {1, 1 + 0x1p-52}, {-1, -1 + 0x1p-53}, {1 - 0x1p-53, 1}, {-1 - 0x1p-52, -1}, {normal - least, normal}, {-normal, -normal + least},
		{greatest, inf}, {inf, inf}, {-inf, -greatest}, {-greatest, -math.Nextafter(greatest, 0)}, {math.Nextafter(greatest, 0), greatest}, {nan, nan}, {math.Float64frombits(0xfff8000000000001), nan}, {0.1, 0.10000000000000002}, {1 << 53, 1<<53 + 2},
	} {
		is(t, "Next", near.Next(x[0]), x[1])
	}
	for f := range floats {
		is(t, "Next", near.Next(f), math.Nextafter(f, inf))
		// What the library gives for nought below nought has a sign.
		is(t, "Next", near.Next(-f), math.Nextafter(-f, inf)+0)
	}
}

// P4.4: what is no number is answered as it is, whatever bits tell it.
func TestNextOfWhatIsNoNumber(t *testing.T) {
	for _, bits := range []uint64{math.Float64bits(nan), 0x7ff8000000000000, 0x7fffffffffffffff, 0xfff8000000000000, math.MaxUint64} {
		if got := math.Float64bits(near.Next(math.Float64frombits(bits))); got != bits {
			t.Errorf("Next of the float of the bits %x: that of %x", bits, got)
		}
	}
}

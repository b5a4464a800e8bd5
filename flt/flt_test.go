package flt_test

import (
	"math"
	"math/big"
	"testing"

	"pantograph/api"
	"pantograph/flt"
	"pantograph/rat"
)

// P4.1
func TestBitsAndKindByHand(t *testing.T) {
	tests := []struct {
		bits uint64
		neg  bool
		exp  int
		frac uint64
		kind int
	}{
		{0, false, 0, 0, 1}, {minus, true, 0, 0, 2},
		{math.Float64bits(1), false, 1023, 0, 0}, {math.Float64bits(-1), true, 1023, 0, 0}, {math.Float64bits(0.5), false, 1022, 0, 0}, {math.Float64bits(-2), true, 1024, 0, 0},
		{math.Float64bits(1.5), false, 1023, 1 << 51, 0}, {math.Float64bits(-1.75), true, 1023, 3 << 50, 0}, {math.Float64bits(0.1), false, 1019, 0x999999999999a, 0}, {math.Float64bits(5), false, 1025, 1 << 50, 0},
		{0x0000000000000001, false, 0, 1, 0}, {0x8000000000000001, true, 0, 1, 0}, {0x000fffffffffffff, false, 0, 1<<52 - 1, 0}, {0x800fffffffffffff, true, 0, 1<<52 - 1, 0}, {0x0008000000000000, false, 0, 1 << 51, 0},
		{0x0010000000000000, false, 1, 0, 0}, {0x8010000000000000, true, 1, 0, 0}, {0x0010000000000001, false, 1, 1, 0}, {0x001fffffffffffff, false, 1, 1<<52 - 1, 0},
		{0x7fefffffffffffff, false, 2046, 1<<52 - 1, 0}, {0xffefffffffffffff, true, 2046, 1<<52 - 1, 0}, {0x7fe0000000000000, false, 2046, 0, 0},
		{0x7ff0000000000000, false, 2047, 0, 3}, {0xfff0000000000000, true, 2047, 0, 4}, {math.Float64bits(math.Inf(1)), false, 2047, 0, 3}, {math.Float64bits(math.Inf(-1)), true, 2047, 0, 4},
		{0x7ff8000000000000, false, 2047, 1 << 51, 5}, {0xfff8000000000000, true, 2047, 1 << 51, 5}, {0x7ff8000000000001, false, 2047, 1<<51 + 1, 5}, {0xfff8000000000001, true, 2047, 1<<51 + 1, 5},
		{0x7ff0000000000001, false, 2047, 1, 5}, {0xfff0000000000001, true, 2047, 1, 5}, {0x7fffffffffffffff, false, 2047, 1<<52 - 1, 5}, {0xffffffffffffffff, true, 2047, 1<<52 - 1, 5}, {0x7ff7ffffffffffff, false, 2047, 1<<51 - 1, 5},
		{0x7ff0000100000000, false, 2047, 1 << 32, 5}, {0xfff00000ffffffff, true, 2047, most, 5},
	}
	for _, x := range tests {
		f := math.Float64frombits(x.bits)
		if neg, exp, frac := flt.Bits(f); neg != x.neg || exp != x.exp || frac != x.frac {
			t.Errorf("Bits of %#x: %v %v %#x", x.bits, neg, exp, frac)
		}
		if kind := flt.Kind(f); kind != x.kind {
			t.Errorf("Kind of %#x: %v", x.bits, kind)
		}
	}
}

// P4.1
func TestBitsOfManyNumbers(t *testing.T) {
	manyBits(func(bits uint64) {
		neg, exp, frac := flt.Bits(math.Float64frombits(bits))
		if exp < 0 || exp >= 1<<11 || frac >= 1<<52 {
			t.Fatalf("Bits of %#x are beyond their places: %v %#x", bits, exp, frac)
		}
		again := uint64(exp)<<52 + frac
		if neg {
			again += minus
		}
		if again != bits {
			t.Fatalf("Bits of %#x: %v %v %#x", bits, neg, exp, frac)
		}
	})
}

// kindOf is what a number is, as the library tells it.
func kindOf(f float64) int {
	switch {
	case math.IsNaN(f):
		return 5
	case math.IsInf(f, 1):
		return 3
	case math.IsInf(f, -1):
		return 4
	case f != 0:
		return 0
	case math.Signbit(f):
		return 2
	}
	return 1
}

// P4.1
func TestKindOfManyNumbers(t *testing.T) {
	manyBits(func(bits uint64) {
		f := math.Float64frombits(bits)
		if got := flt.Kind(f); got != kindOf(f) {
			t.Fatalf("Kind of %#x: %v", bits, got)
		}
	})
}

// P4.2: the number beside an error is its zero value.
func TestFromRefuses(t *testing.T) {
	expectRefused := func(bits uint64, want api.Errno) {
		if got, err := flt.From(math.Float64frombits(bits)); err != want || !alike(got, api.Rat{}) || !rat.Zero(got) {
			t.Errorf("From of %#x: %v %v", bits, got, err)
		}
	}
	expectRefused(infinityBits, api.ErrInf)
	expectRefused(minus|infinityBits, api.ErrInf)
	for _, frac := range fractions()[1:] {
		expectRefused(infinityBits|frac, api.ErrNaN)
		expectRefused(minus|infinityBits|frac, api.ErrNaN)
	}
	for place := range 52 {
		expectRefused(infinityBits|1<<place, api.ErrNaN)
		expectRefused(minus|infinityBits|1<<place, api.ErrNaN)
	}
	expectRefused(math.Float64bits(math.NaN()), api.ErrNaN)
}

// P4.2, and the chapter's example
func TestFromByHand(t *testing.T) {
	nought := ratOf(false, nil, []uint32{1})
	// limbsOf is a row of noughts with one limb at its end.
	limbsOf := func(noughts int, last uint32) []uint32 { return append(make([]uint32, noughts), last) }
	tests := []struct {
		f    float64
		want api.Rat
	}{
		{0, nought}, {math.Copysign(0, -1), nought}, {0.5, small(1, 2)}, {-0.5, small(-1, 2)}, {1, small(1, 1)}, {-1, small(-1, 1)}, {2, small(2, 1)}, {-3, small(-3, 1)}, {10, small(10, 1)}, {1e9, small(1e9, 1)},
		{1.5, small(3, 2)}, {-0.75, small(-3, 4)}, {0.125, small(1, 8)}, {100.25, small(401, 4)}, {-1.0 / 1024, small(-1, 1024)}, {most, small(most, 1)}, {most + 1, ratOf(false, []uint32{0, 1}, []uint32{1})},
		{most + 0.5, ratOf(false, []uint32{most, 1}, []uint32{2})}, {1 << 53, ratOf(false, []uint32{0, 1 << 21}, []uint32{1})}, {-(1<<53 - 1), ratOf(true, []uint32{most, 1<<21 - 1}, []uint32{1})},
		{0.1, ratOf(false, []uint32{0xcccccccd, 0xccccc}, []uint32{0, 1 << 23})}, {-1.0 / 3, ratOf(true, []uint32{0x55555555, 0x155555}, []uint32{0, 1 << 22})},
		{math.Float64frombits(leastBits), ratOf(false, []uint32{1}, limbsOf(33, 1<<18))},
		{math.Float64frombits(minus | leastBits), ratOf(true, []uint32{1}, limbsOf(33, 1<<18))},
		{math.Float64frombits(2), ratOf(false, []uint32{1}, limbsOf(33, 1<<17))},
		{math.Float64frombits(3), ratOf(false, []uint32{3}, limbsOf(33, 1<<18))},
		{math.Float64frombits(greatestPlainBits), ratOf(false, []uint32{most, 1<<20 - 1}, limbsOf(33, 1<<18))},
		{math.Float64frombits(leastLeadingBits), ratOf(false, []uint32{1}, limbsOf(31, 1<<30))},
		{math.Float64frombits(leastLeadingBits + 1), ratOf(false, []uint32{1, 1 << 20}, limbsOf(33, 1<<18))},
		{math.Float64frombits(2 * leastLeadingBits), ratOf(false, []uint32{1}, limbsOf(31, 1<<29))},
		{math.Float64frombits(greatestBits), ratOf(false, append(limbsOf(30, 0xfffff800), most), []uint32{1})},
		{math.Float64frombits(minus | greatestBits), ratOf(true, append(limbsOf(30, 0xfffff800), most), []uint32{1})},
		{math.Float64frombits(2046 << 52), ratOf(false, limbsOf(31, 1<<31), []uint32{1})},
	}
	for _, x := range tests {
		if got, err := flt.From(x.f); err != api.OK || !alike(got, x.want) {
			t.Error("From", x.f, got, err)
		}
	}
}

// signedWorth is the exact value of a number of 64 bits.
func signedWorth(bits uint64) *big.Rat {
	x := worth(bits &^ minus)
	if bits&minus != 0 {
		x.Neg(x)
	}
	return x
}

// P4.2, P4.3
func TestFromOfManyNumbersAndBack(t *testing.T) {
	manyBits(func(bits uint64) {
		if !isNumber(bits) {
			return
		}
		f := math.Float64frombits(bits)
		got, err := flt.From(f)
		if err != api.OK || !alike(got, normal(signedWorth(bits))) || !rat.Is(got) {
			t.Fatalf("From of %#x: %v %v", bits, got, err)
		}
		want := bits
		if bits == minus {
			want = 0
		}
		expectBits(t, flt.To(got), want, "To of From of", f)
	})
}

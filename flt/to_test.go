package flt_test

import (
	"math"
	"math/big"
	"math/rand"
	"slices"
	"testing"

	"pantograph/api"
	"pantograph/flt"
)

// nearest is the bits that the library rounds to; its noughts may have a sign.
func nearest(x *big.Rat) uint64 {
	f, _ := x.Float64()
	if f == 0 {
		return 0
	}
	return math.Float64bits(f)
}

// P4.2, and the chapter's example
func TestToByHand(t *testing.T) {
	tests := []struct {
		a    api.Rat
		want float64
	}{
		{small(1, 3), 0.3333333333333333}, {small(-1, 3), -0.3333333333333333}, {small(1, 2), 0.5}, {small(-1, 2), -0.5}, {small(1, 1), 1}, {small(-7, 1), -7}, {small(10, 1), 10},
		{small(1, 10), 0.1}, {small(2, 10), 0.2}, {small(3, 10), 0.3}, {small(-22, 7), -3.142857142857143}, {small(2, 3), 0.6666666666666666}, {small(1, 1000000000), 1e-9},
		{small(most, 1), 4294967295}, {small(1, most), 2.3283064370807974e-10}, {ratOf(false, []uint32{0, 1}, []uint32{1}), 4294967296}, {ratOf(true, []uint32{1}, []uint32{0, 1}), -2.3283064365386963e-10},
		// These are not normal.
		{small(2, 4), 0.5}, {small(-6, 4), -1.5}, {small(6, 3), 2}, {small(-7, 7), -1}, {ratOf(true, []uint32{5, 0}, []uint32{6, 0, 0}), -0.8333333333333334}, {ratOf(false, []uint32{5, 0}, []uint32{1, 0}), 5},
		{ratOf(false, []uint32{0, 6}, []uint32{0, 4}), 1.5}, {ratOf(true, append(make([]uint32, 200), 7), append(make([]uint32, 200), 2)), -3.5},
		// 2^53 and what follows on it: of two that are as near, the even one.
		{ratOf(false, []uint32{0, 1 << 21}, []uint32{1}), 1 << 53}, {ratOf(false, []uint32{1, 1 << 21}, []uint32{1}), 1 << 53}, {ratOf(false, []uint32{2, 1 << 21}, []uint32{1}), 1<<53 + 2},
		{ratOf(false, []uint32{3, 1 << 21}, []uint32{1}), 1<<53 + 4}, {ratOf(true, []uint32{3, 1 << 21}, []uint32{1}), -(1<<53 + 4)}, {ratOf(true, []uint32{1, 1 << 21}, []uint32{1}), -(1 << 53)},
		{ratOf(false, []uint32{3, 1 << 22}, []uint32{2}), 1<<53 + 2}, {ratOf(false, []uint32{1, 1 << 22}, []uint32{2}), 1 << 53}, {ratOf(false, []uint32{5, 1 << 22}, []uint32{2}), 1<<53 + 2},
		// A rounding that carries into the next exponent.
		{ratOf(false, []uint32{most, 1<<22 - 1}, []uint32{1}), 1 << 54}, {ratOf(true, []uint32{most, 1<<22 - 1}, []uint32{1}), -(1 << 54)}, {ratOf(false, []uint32{most, most}, []uint32{1}), 1 << 64}, {ratOf(false, []uint32{most, most}, []uint32{0, 0, 1}), 1},
		{ratOf(true, []uint32{most, most}, []uint32{0, 0, 1}), -1}, {ratOf(false, []uint32{most, 1<<21 - 1}, []uint32{0, 1 << 21}), 1 - 1.0/(1<<53)}, {ratOf(false, []uint32{most, 1<<22 - 1}, []uint32{0, 1 << 22}), 1},
	}
	for _, x := range tests {
		expectBits(t, flt.To(x.a), math.Float64bits(x.want), "To", x.a)
	}
}

// row is n limbs that are alike, and others behind them.
func row(n int, limb uint32, behind ...uint32) []uint32 {
	return append(slices.Repeat([]uint32{limb}, n), behind...)
}

// P4.2: the edges, limb by limb.
func TestToEdgesByHand(t *testing.T) {
	one := []uint32{1}
	tests := []struct {
		n, d []uint32
		want uint64
	}{
		// Around the greatest number, 2^1024, and the middle of both.
		{row(30, 0, 0xfffff800, most), one, greatestBits},
		{row(30, 0, 0xfffff000, most), one, greatestBits - 1},
		{row(30, 0, 0xfffff400, most), one, greatestBits - 1},
		{row(30, 0, 0xfffff401, most), one, greatestBits},
		{row(30, most, 0xfffffbff, most), one, greatestBits},
		{row(30, 0, 0xfffffc00, most), one, infinityBits},
		{row(30, 0, 0xfffffc01, most), one, infinityBits},
		{row(32, most), one, infinityBits},
		{row(32, 0, 1), one, infinityBits},
		{row(32, most), []uint32{3}, 2045<<52 + 0x5555555555555},
		{row(32, 0, 2), []uint32{1, 0}, infinityBits},
		{row(32, 0, 2), []uint32{2, 0}, infinityBits},
		{row(32, 0, 2), []uint32{3}, 2046<<52 + 0x5555555555555},
		{row(200, 0, 1), row(169, 0, 1, 0), 2015 << 52},
		// Around half of the least number, which is 1 by 2^1075.
		{one, row(33, 0, 1<<18), leastBits},
		{one, row(33, 0, 1<<19), 0},
		{row(33, most, 1<<19-1), row(67, 0, 1<<6), 0},
		{row(1, 1, 1), row(34, 0, 1<<19), leastBits},
		{row(1, most), row(34, 0, 1<<19), 0},
		{row(1, 3), row(33, 0, 1<<19), 2},
		{row(1, 5), row(33, 0, 1<<19), 2},
		{row(1, 7), row(33, 0, 1<<20), 2},
		{row(1, 5), row(33, 0, 1<<20), leastBits},
		{one, row(33, 0, 1<<20), 0},
		{one, row(34, 0, 1), 0},
		// Around the least number with a leading 1, 2^52 times the least one.
		{row(1, most, 1<<20-1), row(33, 0, 1<<18), greatestPlainBits},
		{row(1, 0, 1<<20), row(33, 0, 1<<18), leastLeadingBits},
		{row(1, 1, 1<<20), row(33, 0, 1<<18), leastLeadingBits + 1},
		{row(1, most, 1<<21-1), row(33, 0, 1<<19), leastLeadingBits},
		{row(1, most-2, 1<<21-1), row(33, 0, 1<<19), greatestPlainBits - 1},
		{row(1, 1, 1<<21), row(33, 0, 1<<19), leastLeadingBits},
		{row(1, 3, 1<<21), row(33, 0, 1<<19), leastLeadingBits + 2},
	}
	for _, x := range tests {
		expectBoth(t, ratOf(false, x.n, x.d), x.want, x.n, x.d)
		expectTo(t, value(ratOf(false, x.n, x.d)), x.want, x.n, x.d)
	}
}

// P4.2: 0 has no sign, however it is written.
func TestToOfNoughts(t *testing.T) {
	for _, a := range noughts() {
		expectBits(t, flt.To(a), 0, "To of a 0", a)
	}
}

// edges are bits at which the next number is of another kind, or of another
// exponent, and those beside them; 0 is none of them.
func edges() []uint64 {
	all := []uint64{1, 2, 3, 4, 5}
	for _, edge := range []uint64{1 << 32, leastLeadingBits, 2 * leastLeadingBits, 3 * leastLeadingBits, oneBits, 1075 << 52, 1076 << 52, 1077 << 52, 2046 << 52, infinityBits} {
		for bits := edge - 4; bits < min(edge+4, infinityBits); bits++ {
			all = append(all, bits)
		}
	}
	return all
}

// expectBoth tries a number and its negative: a nought has no sign.
func expectBoth(t *testing.T, a api.Rat, want uint64, what ...any) {
	t.Helper()
	expectBits(t, flt.To(a), want, append(what, "To")...)
	if want != 0 {
		want |= minus
	}
	a.Neg = true
	expectBits(t, flt.To(a), want, append(what, "To of the negative")...)
}

// expectTo tries a number and its negative, in many writings.
func expectTo(t *testing.T, x *big.Rat, want uint64, what ...any) {
	t.Helper()
	for _, a := range writings(x) {
		expectBoth(t, a, want, what...)
	}
}

func halfWay(below, above *big.Rat) *big.Rat {
	middle := new(big.Rat).Add(below, above)
	return middle.Mul(middle, big.NewRat(1, 2))
}

// aside is a number by some part of itself greater, or lesser.
func aside(x, part *big.Rat) *big.Rat {
	more := new(big.Rat).Mul(x, part)
	return more.Add(more, x)
}

// expectHalfWay holds what lies between a number and the next one, or 2^1024,
// against the document's words.
func expectHalfWay(t *testing.T, bits uint64) {
	t.Helper()
	below, above := worth(bits), worth(bits+1)
	middle, part := halfWay(below, above), power(-4500)
	minusPart := new(big.Rat).Neg(part)
	expectTo(t, below, bits, bits, "itself")
	expectTo(t, aside(below, part), bits, bits, "just above it")
	expectTo(t, halfWay(below, middle), bits, bits, "a quarter above it")
	expectTo(t, aside(middle, minusPart), bits, bits, "just below the middle")
	expectTo(t, middle, bits+bits%2, bits, "half way")
	expectTo(t, aside(middle, part), bits+1, bits, "just above the middle")
	expectTo(t, halfWay(middle, above), bits+1, bits, "a quarter below the next one")
	expectTo(t, aside(above, minusPart), bits+1, bits, "just below the next one")
	expectTo(t, above, bits+1, bits, "the next one")
}

// P4.2: half of the least number is among these, and what is half way between
// the greatest one and 2^1024.
func TestToHalfWay(t *testing.T) {
	expectHalfWay(t, 0)
	for _, bits := range edges() {
		expectHalfWay(t, bits)
	}
}

// P4.2
func TestToHalfWayOnManyNumbers(t *testing.T) {
	r := rand.New(rand.NewSource(4))
	for exp := range uint64(2047) {
		if exp%16 == 0 {
			expectHalfWay(t, exp<<52|r.Uint64()>>12)
		}
		for _, frac := range []uint64{0, 1<<52 - 1, r.Uint64() >> 12} {
			bits := exp<<52 | frac
			middle := halfWay(worth(bits), worth(bits+1))
			expectBoth(t, normal(middle), bits+bits%2, bits, "half way")
			expectBoth(t, normal(worth(bits)), bits, bits, "itself")
		}
	}
}

// P4.2: beyond the middle of the greatest number and 2^1024 all is infinity,
// below half of the least one all is 0.
func TestToBeyond(t *testing.T) {
	for _, n := range []int{1024, 1025, 1026, 1055, 1056, 1087, 1088, 2000, 4095, 4096, 4097, 4098, 5000, 8191, 8192, 8193, 20000, 65536, 100000} {
		high, tiny := power(n), power(-n-51)
		third := big.NewRat(1, 3)
		for _, x := range []*big.Rat{high, new(big.Rat).Add(high, third), new(big.Rat).Sub(high, third), new(big.Rat).Mul(high, big.NewRat(5, 3)), new(big.Rat).Mul(high, big.NewRat(7, 1))} {
			expectTo(t, x, infinityBits, "high power", n)
		}
		for _, x := range []*big.Rat{tiny, new(big.Rat).Mul(tiny, third), new(big.Rat).Mul(tiny, big.NewRat(2, 3)), new(big.Rat).Mul(tiny, big.NewRat(1, 1<<40))} {
			expectTo(t, x, 0, "tiny power", n)
		}
	}
	// All powers of two, from below the least number to beyond the greatest.
	for n := -1200; n <= 1200; n++ {
		expectBits(t, flt.To(normal(power(n))), nearest(power(n)), "power", n)
		x := new(big.Rat).Mul(power(n), big.NewRat(-5, 3))
		expectBits(t, flt.To(normal(x)), nearest(x), "- 5/3 times power", n)
	}
}

// P4.2
func TestToOnManyNumbers(t *testing.T) {
	many(func(a api.Rat) {
		expectBits(t, flt.To(a), nearest(value(a)), "To", a)
	})
	r := rand.New(rand.NewSource(11))
	for range 20000 {
		// Such as differ in length so much that most exponents are met.
		x := new(big.Rat).Mul(new(big.Rat).SetFrac64(1+r.Int63(), 1+r.Int63n(1<<r.Intn(62))), power(r.Intn(2300)-1150))
		a := normal(x)
		expectBits(t, flt.To(a), nearest(x), "To", a)
		a.Neg = true
		expectBits(t, flt.To(a), nearest(x.Neg(x)), "To", a)
	}
}

// P4.2: a greater number has no lesser answer.
func TestToRises(t *testing.T) {
	for _, bits := range edges() {
		last := flt.To(normal(worth(bits - 1)))
		step := new(big.Rat).Sub(worth(bits+1), worth(bits-1))
		step.Mul(step, big.NewRat(1, 37))
		x := worth(bits - 1)
		for range 37 {
			x.Add(x, step)
			f := flt.To(normal(x))
			if f < last {
				t.Fatal("To falls", bits, f, last)
			}
			expectBits(t, f, nearest(x), "To near", bits)
			last = f
		}
	}
}

// W1: no bound is told for the limbs that are handed in.
func TestToOfLongNumbers(t *testing.T) {
	r := rand.New(rand.NewSource(13))
	for range 40 {
		n, d := append(randomRow(r, 600+r.Intn(34)), 1+r.Uint32()%5, 0), append(randomRow(r, 617), 1+r.Uint32()%5)
		a := ratOf(r.Intn(2) == 0, n, d)
		expectBits(t, flt.To(a), nearest(value(a)), "To of long parts")
	}
	long := append(make([]uint32, 200000), 3)
	expectBits(t, flt.To(ratOf(true, long, []uint32{1})), minus|infinityBits, "To of a long number")
	expectBits(t, flt.To(ratOf(true, []uint32{1}, long)), 0, "To of one by a long number")
	expectBits(t, flt.To(ratOf(true, long, long)), minus|oneBits, "To of a long number by itself")
	expectBits(t, flt.To(ratOf(true, long, nil)), 0, "To of a long number by nothing")
}

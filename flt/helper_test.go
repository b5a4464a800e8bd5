package flt_test

import (
	"math"
	"math/big"
	"math/rand"
	"slices"
	"testing"

	"pantograph/api"
)

const most = 1<<32 - 1

// Bits of numbers at the edges, without a sign.
const (
	leastBits         = 1
	greatestPlainBits = 1<<52 - 1 // the greatest without a leading 1
	leastLeadingBits  = 1 << 52   // the least with one
	oneBits           = 1023 << 52
	greatestBits      = 2047<<52 - 1
	infinityBits      = 2047 << 52
	minus             = 1 << 63
)

// ratOf is a number as it is written, normal or not.
func ratOf(neg bool, n, d []uint32) api.Rat { return api.Rat{Neg: neg, N: n, D: d} }

// small is a number of small parts, as they are written.
func small(n int, d uint32) api.Rat {
	if n < 0 {
		return ratOf(true, []uint32{uint32(-n)}, []uint32{d})
	}
	return ratOf(false, []uint32{uint32(n)}, []uint32{d})
}

func natural(a []uint32) *big.Int {
	n := new(big.Int)
	for _, limb := range slices.Backward(a) {
		n.Lsh(n, 32)
		n.Or(n, new(big.Int).SetUint64(uint64(limb)))
	}
	return n
}

func limbs(n *big.Int) []uint32 {
	var a []uint32
	for n = new(big.Int).Abs(n); n.Sign() > 0; n.Rsh(n, 32) {
		a = append(a, uint32(new(big.Int).And(n, big.NewInt(most)).Uint64()))
	}
	return a
}

// value is a number of the library: what the answers are held against is
// worked out without the packages of the project.
func value(a api.Rat) *big.Rat {
	n, d := natural(a.N), natural(a.D)
	if d.Sign() == 0 {
		return new(big.Rat)
	}
	if a.Neg {
		n.Neg(n)
	}
	return new(big.Rat).SetFrac(n, d)
}

// normal is a number of the library as the document writes it: it answers
// numbers in lowest terms, 0 as no limb by 1.
func normal(x *big.Rat) api.Rat {
	return ratOf(x.Sign() < 0, limbs(x.Num()), limbs(x.Denom()))
}

// alike tells whether two numbers are written alike, limb by limb.
func alike(a, b api.Rat) bool {
	return a.Neg == b.Neg && slices.Equal(a.N, b.N) && slices.Equal(a.D, b.D)
}

// twisted is the same number, written so that it is not normal: by a factor,
// and with noughts at the ends of its rows.
func twisted(a api.Rat, factor *big.Int, noughts int) api.Rat {
	times := func(row []uint32) []uint32 {
		n := natural(row)
		return append(limbs(n.Mul(n, factor)), make([]uint32, noughts)...)
	}
	return ratOf(a.Neg, times(a.N), times(a.D))
}

// writings are ways to write one number: as it is normal, by factors small,
// long and beyond what a shift makes, and with noughts at the ends of its rows.
func writings(x *big.Rat) []api.Rat {
	a := normal(x)
	return []api.Rat{
		a, twisted(a, big.NewInt(1), 2), twisted(a, big.NewInt(6), 0), twisted(a, big.NewInt(1<<40+1), 1),
		twisted(a, new(big.Int).Exp(big.NewInt(3), big.NewInt(3000), nil), 1),
	}
}

// noughts are 0, written in many ways.
func noughts() []api.Rat {
	return []api.Rat{
		{}, {Neg: true}, ratOf(false, nil, []uint32{1}), ratOf(true, nil, []uint32{1}), small(0, 5), small(5, 0), small(-5, 0), small(0, 0),
		ratOf(true, []uint32{0, 0}, []uint32{3, 0}), ratOf(false, []uint32{5, 6}, nil), ratOf(true, []uint32{most}, []uint32{0, 0}),
		ratOf(false, make([]uint32, 40), []uint32{1}), ratOf(true, []uint32{1}, make([]uint32, 40)),
	}
}

// rows are naturals at which limbs begin, end and carry, and at which the bits
// of a fraction are full, also with noughts at their end.
func rows() [][]uint32 {
	return [][]uint32{
		nil, {0}, {1}, {1, 0}, {2}, {3}, {6, 0, 0}, {10}, {most}, {1 << 31, 0}, {0, 1}, {0, 6, 0}, {most, 1<<20 - 1}, {0, 1 << 20}, {1, 1 << 20},
		{most, 1<<21 - 1}, {0, 1 << 21}, {1, 1 << 21}, {most, 1<<22 - 1}, {most, most}, {0, 0, 12, 0}, {most - 1<<10, most, most},
	}
}

// rough are numbers of all pairs of rows with both signs: most are not normal.
func rough() []api.Rat {
	var all []api.Rat
	for _, n := range rows() {
		for _, d := range rows() {
			all = append(all, ratOf(false, n, d), ratOf(true, n, d))
		}
	}
	return all
}

func randomRow(r *rand.Rand, size int) []uint32 {
	a := make([]uint32, size)
	for i := range a {
		a[i] = []uint32{0, 1, most, 1 << r.Intn(32), r.Uint32(), r.Uint32()}[r.Intn(6)]
	}
	return a
}

// many hands out rough numbers, and random ones of many lengths.
func many(yield func(a api.Rat)) {
	for _, a := range append(noughts(), rough()...) {
		yield(a)
	}
	r := rand.New(rand.NewSource(7))
	for _, longest := range []int{3, 9, 40} {
		for range 2000 {
			yield(ratOf(r.Intn(2) == 0, randomRow(r, r.Intn(longest)), randomRow(r, r.Intn(longest))))
		}
	}
}

// power is two to some power, below 0, too.
func power(n int) *big.Rat {
	one, high := big.NewInt(1), new(big.Int).Lsh(big.NewInt(1), uint(max(n, -n)))
	if n < 0 {
		return new(big.Rat).SetFrac(one, high)
	}
	return new(big.Rat).SetFrac(high, one)
}

// worth is the value of bits without a sign, by what a number of 64 bits is:
// the fraction by the power of its last bit. That of infinity is 2^1024, where
// a number would follow on the greatest one.
func worth(bits uint64) *big.Rat {
	exp, frac := int(bits>>52), int64(bits&(1<<52-1))
	if exp > 0 {
		frac += 1 << 52
	}
	x := new(big.Rat).SetInt64(frac)
	return x.Mul(x, power(max(exp, 1)-1075))
}

// fractions are rows of 52 bits at which something begins or ends.
func fractions() []uint64 {
	return []uint64{
		0, 1, 2, 3, 5, 1 << 20, 1 << 31, 1<<32 - 1, 1 << 32, 1<<32 + 1, 1<<51 - 1, 1 << 51, 1<<51 + 1, 0x5555555555555, 0xaaaaaaaaaaaaa, 1<<52 - 2, 1<<52 - 1,
	}
}

// manyBits hands out numbers of 64 bits: all exponents, with such fractions
// and with random ones, with both signs.
func manyBits(yield func(bits uint64)) {
	r := rand.New(rand.NewSource(9))
	for exp := range uint64(2048) {
		for _, frac := range append(fractions(), r.Uint64()>>12, r.Uint64()>>12, r.Uint64()>>40, uint64(1)<<r.Intn(52)) {
			yield(exp<<52 | frac)
			yield(minus | exp<<52 | frac)
		}
	}
}

// isNumber tells whether bits are neither infinity nor none.
func isNumber(bits uint64) bool { return bits&^minus < infinityBits }

// expectBits fails if a number of 64 bits does not have just these bits.
func expectBits(t *testing.T, got float64, want uint64, what ...any) {
	t.Helper()
	if math.Float64bits(got) != want {
		t.Fatalf("%v is %v, %#x, not %v, %#x", what, got, math.Float64bits(got), math.Float64frombits(want), want)
	}
}

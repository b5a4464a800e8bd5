package dec_test

import (
	"cmp"
	"math/big"
	"math/rand"
	"slices"
	"strings"
	"testing"

	"pantograph/api"
)

const most = 1<<32 - 1

// ratOf is a number as it is written, normal or not.
func ratOf(neg bool, n, d []uint32) api.Rat { return api.Rat{Neg: neg, N: n, D: d} }

// small is a number of small parts, as they are written.
func small(n int, d uint32) api.Rat {
	if n < 0 {
		return ratOf(true, []uint32{uint32(-n)}, []uint32{d})
	}
	return ratOf(false, []uint32{uint32(n)}, []uint32{d})
}

func natural(a []uint32) *big.Int {
	n := new(big.Int)
	for _, limb := range slices.Backward(a) {
		n.Lsh(n, 32)
		n.Or(n, new(big.Int).SetUint64(uint64(limb)))
	}
	return n
}

func limbs(n *big.Int) []uint32 {
	var a []uint32
	for n = new(big.Int).Abs(n); n.Sign() > 0; n.Rsh(n, 32) {
		a = append(a, uint32(new(big.Int).And(n, big.NewInt(most)).Uint64()))
	}
	return a
}

// value is a number of the library: what the answers are held against is
// worked out without the packages of the project.
func value(a api.Rat) *big.Rat {
	n, d := natural(a.N), natural(a.D)
	if d.Sign() == 0 {
		return new(big.Rat)
	}
	if a.Neg {
		n.Neg(n)
	}
	return new(big.Rat).SetFrac(n, d)
}

// normal is a number of the library as the document writes it: it answers
// numbers in lowest terms, 0 as no limb by 1.
func normal(x *big.Rat) api.Rat {
	return ratOf(x.Sign() < 0, limbs(x.Num()), limbs(x.Denom()))
}

// alike tells whether two numbers are written alike, limb by limb.
func alike(a, b api.Rat) bool {
	return a.Neg == b.Neg && slices.Equal(a.N, b.N) && slices.Equal(a.D, b.D)
}

// expect fails if an answer is not normal, or not the number that it must be.
func expect(t *testing.T, got api.Rat, want *big.Rat, what string, args ...any) {
	t.Helper()
	if !alike(got, normal(want)) {
		t.Fatal(what, args, "is", got, "not", normal(want))
	}
}

// read is a number of the library by its text. The library's own reading of
// fractions takes a nought ahead for another base.
func read(s string) *big.Rat {
	size, neg := strings.CutPrefix(s, "-")
	over, under, _ := strings.Cut(size, "/")
	over, behind, _ := strings.Cut(over, ".")
	n, ok := new(big.Int).SetString(over+behind, 10)
	d, may := new(big.Int).SetString(cmp.Or(under, "1"), 10)
	if !ok || !may {
		panic("no number: " + s)
	}
	if neg {
		n.Neg(n)
	}
	return new(big.Rat).SetFrac(n, d.Mul(d, power(10, len(behind))))
}

// twisted is the same number, written so that it is not normal: by a factor,
// and with noughts at the ends of its rows.
func twisted(a api.Rat, factor int64, noughts int) api.Rat {
	times := func(row []uint32) []uint32 {
		n := natural(row)
		return append(limbs(n.Mul(n, big.NewInt(factor))), make([]uint32, noughts)...)
	}
	return ratOf(a.Neg, times(a.N), times(a.D))
}

// noughts are 0, written in many ways.
func noughts() []api.Rat {
	return []api.Rat{
		{}, {Neg: true}, ratOf(false, nil, []uint32{1}), ratOf(true, nil, []uint32{1}), small(0, 5), small(5, 0), small(-5, 0),
		ratOf(true, []uint32{0, 0}, []uint32{3, 0}), ratOf(false, []uint32{5, 6}, nil), ratOf(true, []uint32{most}, []uint32{0, 0}),
	}
}

// rows are naturals at which limbs begin, end and carry, and tens are full,
// also with noughts at their end.
func rows() [][]uint32 {
	return [][]uint32{
		nil, {0}, {1}, {1, 0}, {2}, {5}, {6, 0, 0}, {8}, {9}, {10}, {64}, {99, 0}, {125}, {1000000000}, {most}, {1 << 31, 0},
		{0, 1}, {0, 6, 0}, {0x10000000, 0x8ac72304, 0x89e80001}, {most, most}, {0xa7640000, 0xde0b6b3}, {0, 0, 12, 0},
	}
}

// rough are numbers of all pairs of rows with both signs: most are not normal.
func rough() []api.Rat {
	var all []api.Rat
	for _, n := range rows() {
		for _, d := range rows() {
			all = append(all, ratOf(false, n, d), ratOf(true, n, d))
		}
	}
	return all
}

func randomRow(r *rand.Rand, size int) []uint32 {
	a := make([]uint32, size)
	for i := range a {
		a[i] = []uint32{0, 1, most, 1 << r.Intn(32), r.Uint32(), r.Uint32()}[r.Intn(6)]
	}
	return a
}

// power is base to some power.
func power(base int64, n int) *big.Int {
	return new(big.Int).Exp(big.NewInt(base), big.NewInt(int64(n)), nil)
}

// randomTens is a number whose divisor has no prime but 2 and 5, or few more:
// many of these are told by digits, just or just not.
func randomTens(r *rand.Rand) api.Rat {
	d := power(2, r.Intn(70))
	d.Mul(d, power(5, r.Intn(70)))
	if r.Intn(8) == 0 {
		d.Mul(d, big.NewInt(3+2*r.Int63n(3)))
	}
	return ratOf(r.Intn(2) == 0, randomRow(r, r.Intn(9)), append(limbs(d), make([]uint32, r.Intn(2))...))
}

// many hands out rough numbers, and random ones of many lengths.
func many(yield func(a api.Rat)) {
	for _, a := range append(noughts(), rough()...) {
		yield(a)
	}
	r := rand.New(rand.NewSource(7))
	for range 2000 {
		yield(randomTens(r))
		yield(ratOf(r.Intn(2) == 0, randomRow(r, r.Intn(9)), randomRow(r, r.Intn(9))))
	}
	for range 100 {
		yield(ratOf(r.Intn(2) == 0, randomRow(r, r.Intn(40)), randomRow(r, r.Intn(40))))
	}
}

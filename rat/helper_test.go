package rat_test

import (
	"math/big"
	"math/rand"
	"slices"
	"testing"

	"pantograph/api"
)

const most = 1<<32 - 1

// ratOf is a number as it is written, normal or not.
func ratOf(neg bool, n, d []uint32) api.Rat { return api.Rat{Neg: neg, N: n, D: d} }

// small is a number of small parts, as they are written.
func small(n int, d uint32) api.Rat {
	if n < 0 {
		return ratOf(true, []uint32{uint32(-n)}, []uint32{d})
	}
	return ratOf(false, []uint32{uint32(n)}, []uint32{d})
}

func natural(a []uint32) *big.Int {
	n := new(big.Int)
	for _, limb := range slices.Backward(a) {
		n.Lsh(n, 32)
		n.Or(n, new(big.Int).SetUint64(uint64(limb)))
	}
	return n
}

func limbs(n *big.Int) []uint32 {
	var a []uint32
	for n = new(big.Int).Abs(n); n.Sign() > 0; n.Rsh(n, 32) {
		a = append(a, uint32(new(big.Int).And(n, big.NewInt(most)).Uint64()))
	}
	return a
}

// value is a number of the library: what the answers are held against is
// worked out without the packages of the project.
func value(a api.Rat) *big.Rat {
	n, d := natural(a.N), natural(a.D)
	if d.Sign() == 0 {
		return new(big.Rat)
	}
	if a.Neg {
		n.Neg(n)
	}
	return new(big.Rat).SetFrac(n, d)
}

// normal is a number of the library as the document writes it: it answers
// numbers in lowest terms, 0 as no limb by 1.
func normal(x *big.Rat) api.Rat {
	return ratOf(x.Sign() < 0, limbs(x.Num()), limbs(x.Denom()))
}

// alike tells whether two numbers are written alike, limb by limb.
func alike(a, b api.Rat) bool {
	return a.Neg == b.Neg && slices.Equal(a.N, b.N) && slices.Equal(a.D, b.D)
}

// expect fails if an answer is not normal, or not the number that it must be.
func expect(t *testing.T, got api.Rat, want *big.Rat, what string, args ...any) {
	t.Helper()
	if !alike(got, normal(want)) {
		t.Fatal(what, args, "is", got, "not", normal(want))
	}
}

// edges are rows at which naturals begin, end and carry, also with noughts at
// their end; many of them have divisors in common.
func edges() [][]uint32 {
	return [][]uint32{
		nil, {}, {0}, {0, 0}, {1}, {1, 0}, {2}, {6, 0, 0}, {9}, {most}, {1 << 31, 0},
		{0, 1}, {0, 6, 0}, {most, most}, {1, 0, 1}, {0, 0, 12, 0},
	}
}

// rough are numbers of all pairs of edges with both signs: most are not normal.
func rough() []api.Rat {
	var all []api.Rat
	for _, n := range edges() {
		for _, d := range edges() {
			all = append(all, ratOf(false, n, d), ratOf(true, n, d))
		}
	}
	return all
}

func randomRow(r *rand.Rand, size int) []uint32 {
	a := make([]uint32, size)
	for i := range a {
		a[i] = []uint32{0, 1, most, 1 << r.Intn(32), r.Uint32(), r.Uint32()}[r.Intn(6)]
	}
	return a
}

// randomRat has a divisor in common in many of its parts, and noughts at the
// end of some.
func randomRat(r *rand.Rand, size int) api.Rat {
	common := natural(randomRow(r, r.Intn(3)))
	if common.Sign() == 0 {
		common.SetInt64(1)
	}
	part := func() []uint32 {
		n := natural(randomRow(r, r.Intn(size)))
		return append(limbs(n.Mul(n, common)), make([]uint32, r.Intn(2))...)
	}
	return ratOf(r.Intn(2) == 0, part(), part())
}

// pairs hands out all pairs of rough numbers, and random ones of many lengths.
func pairs(yield func(a, b api.Rat)) {
	all := rough()
	for i, a := range all {
		// A seventh of the second ones for each first: all pairs take too long.
		for j := i % 7; j < len(all); j += 7 {
			yield(a, all[j])
		}
	}
	r := rand.New(rand.NewSource(7))
	for range 5000 {
		yield(randomRat(r, 5), randomRat(r, 5))
	}
	for range 200 {
		yield(randomRat(r, 40), randomRat(r, 40))
	}
	for range 2000 {
		// Neighbours of one number, and the number in two ways.
		a, k := randomRat(r, 4), big.NewInt(1+r.Int63n(1000))
		n, d := natural(a.N), natural(a.D)
		n.Mul(n, k)
		yield(a, ratOf(a.Neg, limbs(n), limbs(d.Mul(d, k))))
		yield(a, ratOf(a.Neg, limbs(n.Add(n, big.NewInt(1))), limbs(d)))
	}
}

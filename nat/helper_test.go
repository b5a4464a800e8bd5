package nat_test

import (
	"math/big"
	"math/rand"
	"testing"
)

const most = 1<<32 - 1

// value is a row of limbs as a number of the library: what the answers are
// held against is worked out without package nat.
func value(a []uint32) *big.Int {
	n := new(big.Int)
	for i := len(a) - 1; i >= 0; i-- {
		n.Lsh(n, 32)
		n.Or(n, big.NewInt(int64(a[i])))
	}
	return n
}

// limbs is a number of the library as a trimmed row.
func limbs(n *big.Int) []uint32 {
	var a []uint32
	low := big.NewInt(most)
	for n = new(big.Int).Set(n); n.Sign() > 0; n.Rsh(n, 32) {
		a = append(a, uint32(new(big.Int).And(n, low).Uint64()))
	}
	return a
}

// expect fails if an answer is not trimmed or not the number that it must be.
func expect(t *testing.T, got []uint32, want *big.Int, what string, args ...any) {
	t.Helper()
	if len(got) > 0 && got[len(got)-1] == 0 {
		t.Fatal(what, args, "is not trimmed:", got)
	}
	if value(got).Cmp(want) != 0 {
		t.Fatal(what, args, "is", got, "not", limbs(want))
	}
}

// edges are rows at which limbs begin, end, carry and borrow, also with
// noughts at their end.
func edges() [][]uint32 {
	return [][]uint32{
		nil, {}, {0}, {0, 0, 0},
		{1}, {1, 0}, {2}, {3, 0, 0}, {10}, {1 << 16}, {1 << 31}, {1<<31 - 1, 0}, {most - 1}, {most}, {most, 0, 0},
		{0, 1}, {0, 1, 0}, {1, 1}, {most, 1}, {0, 1 << 31}, {most, 1<<31 - 1}, {0, most}, {most, most}, {most, most, 0},
		{0, 0, 1}, {1, 0, 1, 0}, {0, 0, 1 << 31}, {1, 0, 1 << 31}, {most, 0, 1 << 31}, {most, most, 1<<31 - 1},
		{0, most, 1 << 31}, {0, most - 1, 1 << 31}, {0, 0, most}, {most, 0, most}, {most, most, most},
		{0, 0, 0, 1}, {1, 0, 0, 1}, {0, 0, 1 << 31, 1<<31 - 1}, {0, most - 1, 0, 1 << 31}, {most, most, most, most, 0, 0},
		{0, 0, 0, 0, 0, 0, 0, 1}, {most, most, most, most, most, most, most, most},
	}
}

// randomRow is of so many limbs, noughts and full ones among them.
func randomRow(r *rand.Rand, n int) []uint32 {
	a := make([]uint32, n)
	for i := range a {
		switch r.Intn(6) {
		case 0:
			a[i] = 0
		case 1:
			a[i] = most
		case 2:
			a[i] = 1 << r.Intn(32)
		default:
			a[i] = r.Uint32()
		}
	}
	return a
}

// pairs hands out all pairs of edges, and random ones of many lengths.
func pairs(yield func(a, b []uint32)) {
	for _, a := range edges() {
		for _, b := range edges() {
			yield(a, b)
		}
	}
	r := rand.New(rand.NewSource(7))
	for range 6000 {
		yield(randomRow(r, r.Intn(9)), randomRow(r, r.Intn(7)))
	}
	for range 300 {
		yield(randomRow(r, r.Intn(80)), randomRow(r, r.Intn(60)))
	}
}

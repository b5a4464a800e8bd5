package rat_test

import (
	"math"
	"math/big"
	"math/rand"
	"testing"

	"pantograph/api"
	"pantograph/rat"
)

// P2.1, and the chapter's example
func TestIsAndNormByHand(t *testing.T) {
	tests := []struct {
		what string
		a    api.Rat
		is   bool
		want api.Rat
	}{
		{"0/1", ratOf(false, nil, []uint32{1}), true, ratOf(false, nil, []uint32{1})},
		{"0/1 of an empty row", ratOf(false, []uint32{}, []uint32{1}), true, ratOf(false, nil, []uint32{1})},
		{"-0/1", ratOf(true, nil, []uint32{1}), false, ratOf(false, nil, []uint32{1})},
		{"-0/5", ratOf(true, []uint32{0}, []uint32{5}), false, ratOf(false, nil, []uint32{1})},
		{"0/5", ratOf(false, nil, []uint32{5}), false, ratOf(false, nil, []uint32{1})},
		{"a nought as a limb", ratOf(false, []uint32{0}, []uint32{1}), false, ratOf(false, nil, []uint32{1})},
		{"nothing at all", api.Rat{}, false, ratOf(false, nil, []uint32{1})},
		{"D of no limb", ratOf(true, []uint32{5}, nil), false, ratOf(false, nil, []uint32{1})},
		{"1 by D of no limb", ratOf(false, []uint32{1}, nil), false, ratOf(false, nil, []uint32{1})},
		{"D of an empty row", ratOf(false, []uint32{1}, []uint32{}), false, ratOf(false, nil, []uint32{1})},
		{"D of a nought", ratOf(false, []uint32{1}, []uint32{0}), false, ratOf(false, nil, []uint32{1})},
		{"D of noughts", ratOf(true, []uint32{5, 6}, []uint32{0, 0, 0}), false, ratOf(false, nil, []uint32{1})},
		{"-0/0", ratOf(true, []uint32{0, 0}, []uint32{0}), false, ratOf(false, nil, []uint32{1})},
		{"5/6", small(5, 6), true, small(5, 6)},
		{"-5/6", small(-5, 6), true, small(-5, 6)},
		{"7/1", small(7, 1), true, small(7, 1)},
		{"6/4", small(6, 4), false, small(3, 2)},
		{"-6/3", small(-6, 3), false, small(-2, 1)},
		{"3/6", small(3, 6), false, small(1, 2)},
		{"7/7", small(7, 7), false, small(1, 1)},
		{"a nought at the end of N", ratOf(false, []uint32{5, 0}, []uint32{6}), false, small(5, 6)},
		{"a nought at the end of D", ratOf(true, []uint32{5}, []uint32{6, 0}), false, small(-5, 6)},
		{"noughts at both ends", ratOf(false, []uint32{10, 0, 0}, []uint32{4, 0, 0, 0}), false, small(5, 2)},
		{"a common limb", ratOf(true, []uint32{0, 3}, []uint32{0, 2}), false, small(-3, 2)},
		{"long parts", ratOf(true, []uint32{1, 0, 1}, []uint32{0, 1}), true, ratOf(true, []uint32{1, 0, 1}, []uint32{0, 1})},
	}
	for _, x := range tests {
		if rat.Is(x.a) != x.is {
			t.Error("Is", x.what)
		}
		if got := rat.Norm(x.a); !alike(got, x.want) {
			t.Error("Norm", x.what, got)
		}
		if got := rat.Of(x.a.Neg, x.a.N, x.a.D); !alike(got, x.want) {
			t.Error("Of", x.what, got)
		}
	}
}

// P2.1: what one number by itself is.
func expectPlain(t *testing.T, a api.Rat) {
	t.Helper()
	want := value(a)
	if rat.Is(a) != alike(a, normal(want)) {
		t.Fatal("Is", a)
	}
	if rat.Zero(a) != (want.Sign() == 0) {
		t.Fatal("Zero", a)
	}
	expect(t, rat.Norm(a), want, "Norm", a)
	expect(t, rat.Of(a.Neg, a.N, a.D), want, "Of", a)
	if !rat.Is(rat.Norm(a)) || !rat.Same(a, rat.Norm(a)) {
		t.Fatal("Norm is not normal, or not the same", a)
	}
	long := len(normal(want).N) > api.MaxLimbs || len(normal(want).D) > api.MaxLimbs
	if rat.Large(a) != long {
		t.Fatal("Large", a)
	}
}

// P2.1
func TestPlainCallsOnManyNumbers(t *testing.T) {
	for _, a := range rough() {
		expectPlain(t, a)
	}
	r := rand.New(rand.NewSource(3))
	for range 3000 {
		expectPlain(t, randomRat(r, 6))
		expectPlain(t, randomRat(r, 24))
	}
}

// P2.1
func TestInt(t *testing.T) {
	for _, n := range []int{0, 1, -1, 2, -2, 7, most - 1, most, most + 1, -most, -most - 1, math.MaxInt32, math.MinInt32,
		math.MaxInt, math.MaxInt - 1, math.MinInt + 1, math.MinInt} {
		expect(t, rat.Int(n), new(big.Rat).SetInt64(int64(n)), "Int", n)
	}
	if got := rat.Int(math.MinInt64); !alike(got, ratOf(true, []uint32{0, 1 << 31}, []uint32{1})) {
		t.Error("the lowest int", got)
	}
	if got := rat.Int(math.MaxInt64); !alike(got, ratOf(false, []uint32{most, 1<<31 - 1}, []uint32{1})) {
		t.Error("the highest int", got)
	}
	if got := rat.Int(0); !alike(got, ratOf(false, nil, []uint32{1})) {
		t.Error("the int 0", got)
	}
}

// P2.1
func TestZeroByHand(t *testing.T) {
	noughts := []api.Rat{{}, {Neg: true}, small(0, 1), small(0, 5), ratOf(true, []uint32{0, 0}, []uint32{3}), small(5, 0), small(-5, 0),
		ratOf(false, []uint32{5}, nil), ratOf(true, []uint32{5}, []uint32{0, 0}), ratOf(false, []uint32{0}, []uint32{0})}
	for _, a := range noughts {
		if !rat.Zero(a) {
			t.Error("Zero", a)
		}
	}
	for _, a := range []api.Rat{small(1, 1), small(-1, 1), small(1, most), small(6, 4), ratOf(false, []uint32{0, 1}, []uint32{1, 0})} {
		if rat.Zero(a) {
			t.Error("Zero", a)
		}
	}
}

// P2.1
func TestSameByHand(t *testing.T) {
	groups := [][]api.Rat{
		{{}, {Neg: true}, small(0, 1), small(0, 7), small(5, 0), ratOf(true, []uint32{5, 6}, []uint32{0, 0}), ratOf(true, []uint32{0}, []uint32{1})},
		{small(1, 2), small(2, 4), ratOf(false, []uint32{3, 0}, []uint32{6, 0, 0}), ratOf(false, []uint32{0, 1}, []uint32{0, 2})},
		{small(-1, 2), small(-2, 4), ratOf(true, []uint32{0, 0, 1, 0}, []uint32{0, 0, 2})},
		{small(2, 1), small(4, 2)},
		{small(1, 3)},
		{ratOf(false, []uint32{2, 1}, []uint32{1})},
		{ratOf(false, []uint32{1}, []uint32{2, 1})},
	}
	for i, group := range groups {
		for j, other := range groups {
			for _, a := range group {
				for _, b := range other {
					if rat.Same(a, b) != (i == j) {
						t.Error("Same", a, b)
					}
				}
			}
		}
	}
}

// row is of so many limbs, the last one 1 and the others 0: it has no divisor
// but twos.
func row(size int) []uint32 {
	a := make([]uint32, size)
	a[size-1] = 1
	return a
}

// full is of so many limbs that all are as great as they can be: it is odd.
func full(size int) []uint32 {
	a := make([]uint32, size)
	for i := range a {
		a[i] = most
	}
	return a
}

func times(a []uint32, factor int64) []uint32 {
	n := natural(a)
	return limbs(n.Mul(n, big.NewInt(factor)))
}

// P2.1: just MaxLimbs limbs are not too many, one more are; what counts are
// the parts that Norm makes.
func TestLarge(t *testing.T) {
	const just, more = api.MaxLimbs, api.MaxLimbs + 1
	three, one := []uint32{3}, []uint32{1}
	tests := []struct {
		what string
		n, d []uint32
		want bool
	}{
		{"no limb at all", nil, nil, false},
		{"just as many in N", row(just), three, false},
		{"all bits of them in N", full(just), one, false},
		{"one more in N", row(more), three, true},
		{"all bits of one more in N", full(more), one, true},
		{"just as many in D", three, row(just), false},
		{"all bits of them in D", one, full(just), false},
		{"one more in D", three, row(more), true},
		{"one more of all bits in D", one, full(more), true},
		{"just as many in both", full(just), row(just), false},
		{"one more in both", full(more), row(more), true},
		{"noughts behind just as many", append(row(just), 0), append(append([]uint32(nil), three...), make([]uint32, 30)...), false},
		{"noughts behind one more", append(row(more), 0, 0), three, true},
		{"noughts behind just as many in D", three, append(row(just), 0, 0), false},
		{"N one more, and as many when normal", row(more), []uint32{2}, false},
		{"D one more, and as many when normal", []uint32{2}, row(more), false},
		{"both one more, and as many when normal", times(full(just), 1000), times(row(just), 1000), false},
		{"both one more, N still so when normal", row(more), []uint32{6}, false},
		{"both two more, and one more when normal", times(full(more), 1000), times(row(more), 1000), true},
		{"N one more still when normal", append([]uint32(nil), times(row(more), 10)...), []uint32{5}, true},
		{"D one more still when normal", []uint32{5}, times(row(more), 10), true},
		{"two long parts that are one", full(3 * more), full(3 * more), false},
		{"no limb by one more", nil, row(more), false},
		{"noughts by one more", make([]uint32, 40), full(more), false},
		{"one more by 0", row(more), []uint32{0}, false},
		{"one more by no limb", full(more), nil, false},
		{"one more by many noughts", full(more), make([]uint32, 40), false},
	}
	for _, x := range tests {
		for _, neg := range []bool{false, true} {
			if rat.Large(ratOf(neg, x.n, x.d)) != x.want {
				t.Error("Large:", x.what, neg)
			}
		}
	}
}

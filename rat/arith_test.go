package rat_test

import (
	"math/big"
	"math/rand"
	"testing"

	"pantograph/api"
	"pantograph/rat"
)

func expectAlike(t *testing.T, got, want api.Rat, what string, args ...any) {
	t.Helper()
	if !alike(got, want) {
		t.Error(what, args, "is", got, "not", want)
	}
}

// P2.2, and the chapter's example
func TestArithmeticByHand(t *testing.T) {
	expectAlike(t, rat.Add(small(1, 2), small(1, 3)), small(5, 6), "Add")
	tests := []struct{ a, b, sum, less, product api.Rat }{
		{small(1, 2), small(1, 3), small(5, 6), small(1, 6), small(1, 6)},
		{small(1, 3), small(1, 2), small(5, 6), small(-1, 6), small(1, 6)},
		{small(1, 6), small(1, 3), small(1, 2), small(-1, 6), small(1, 18)},
		{small(-1, 2), small(1, 3), small(-1, 6), small(-5, 6), small(-1, 6)},
		{small(-1, 2), small(-1, 3), small(-5, 6), small(-1, 6), small(1, 6)},
		{small(1, 2), small(-2, 4), nought(), small(1, 1), small(-1, 4)},
		{small(2, 3), small(3, 2), small(13, 6), small(-5, 6), small(1, 1)},
		{small(-7, 1), small(7, 1), nought(), small(-14, 1), small(-49, 1)},
		{small(0, 9), small(-3, 6), small(-1, 2), small(1, 2), nought()},
		{small(-3, 6), nought(), small(-1, 2), small(-1, 2), nought()},
		// A D of 0 makes a 0 of it, whatever N is.
		{small(9, 0), small(2, 4), small(1, 2), small(-1, 2), nought()},
		{small(-2, 4), small(-9, 0), small(-1, 2), small(-1, 2), nought()},
		{ratOf(true, []uint32{9}, nil), small(5, 0), nought(), nought(), nought()},
		{small(most, 1), small(1, 1), ratOf(false, []uint32{0, 1}, []uint32{1}), small(most-1, 1), small(most, 1)},
	}
	for _, x := range tests {
		expectAlike(t, rat.Add(x.a, x.b), x.sum, "Add", x.a, x.b)
		expectAlike(t, rat.Sub(x.a, x.b), x.less, "Sub", x.a, x.b)
		expectAlike(t, rat.Mul(x.a, x.b), x.product, "Mul", x.a, x.b)
	}
}

func nought() api.Rat { return ratOf(false, nil, []uint32{1}) }

// P2.2: by 0 there is false, and 0, however that 0 is written.
func TestDivByHand(t *testing.T) {
	noughts := []api.Rat{{}, {Neg: true}, nought(), small(0, 5), ratOf(true, []uint32{0, 0}, []uint32{3, 0}), small(5, 0), small(-5, 0),
		ratOf(true, []uint32{5, 6}, nil), ratOf(false, []uint32{5}, []uint32{0, 0})}
	for _, a := range append([]api.Rat{small(1, 1), small(-6, 4), ratOf(false, full(20), row(19))}, noughts...) {
		for _, b := range noughts {
			if got, ok := rat.Div(a, b); ok || !alike(got, nought()) {
				t.Error("Div by 0", a, b, got, ok)
			}
		}
	}
	tests := []struct{ a, b, want api.Rat }{
		{small(1, 2), small(1, 3), small(3, 2)}, {small(1, 2), small(-2, 3), small(-3, 4)}, {small(-1, 2), small(1, 2), small(-1, 1)},
		{small(-4, 6), small(-2, 3), small(1, 1)}, {small(6, 1), small(4, 1), small(3, 2)}, {nought(), small(-5, 7), nought()},
		{small(-5, 0), small(5, 7), nought()}, {ratOf(true, []uint32{0}, []uint32{4}), small(-3, 1), nought()},
		{small(1, 1), ratOf(true, []uint32{0, 1}, []uint32{most}), ratOf(true, []uint32{most}, []uint32{0, 1})},
		{ratOf(false, []uint32{6, 0}, []uint32{4, 0, 0}), ratOf(true, []uint32{9, 0, 0}, []uint32{6, 0}), small(-1, 1)},
	}
	for _, x := range tests {
		got, ok := rat.Div(x.a, x.b)
		if !ok {
			t.Error("Div", x.a, x.b)
		}
		expectAlike(t, got, x.want, "Div", x.a, x.b)
	}
}

// P2.2
func TestNegByHand(t *testing.T) {
	tests := []struct{ a, want api.Rat }{
		{small(5, 6), small(-5, 6)}, {small(-5, 6), small(5, 6)}, {small(6, 4), small(-3, 2)}, {small(-6, 4), small(3, 2)},
		{nought(), nought()}, {api.Rat{}, nought()}, {small(0, 5), nought()}, {ratOf(true, []uint32{0}, []uint32{5}), nought()},
		{small(5, 0), nought()}, {small(-5, 0), nought()}, {ratOf(false, []uint32{0, 1, 0}, []uint32{3, 0}), ratOf(true, []uint32{0, 1}, []uint32{3})},
	}
	for _, x := range tests {
		expectAlike(t, rat.Neg(x.a), x.want, "Neg", x.a)
	}
}

// P2.2
func TestCmpByHand(t *testing.T) {
	// The numbers rise; those in one row are one number.
	rising := [][]api.Rat{
		{ratOf(true, []uint32{0, 0, 1}, []uint32{1}), ratOf(true, []uint32{0, 0, 5, 0}, []uint32{5})},
		{small(-7, 1), small(-14, 2)},
		{small(-3, 2)},
		{small(-1, 1), ratOf(true, full(3), full(3))},
		{small(-1, 2)},
		{ratOf(true, []uint32{1}, []uint32{0, 0, 1})},
		{nought(), {}, {Neg: true}, small(0, 5), ratOf(true, []uint32{0}, []uint32{1}), small(5, 0), small(-5, 0), ratOf(true, full(5), nil)},
		{ratOf(false, []uint32{1}, []uint32{0, 0, 1}), ratOf(false, []uint32{3, 0}, []uint32{0, 0, 3, 0})},
		{small(1, most)},
		{small(1, 3), small(2, 6), small(most/3, most)},
		{small(1, 2)},
		{small(1, 1), small(9, 9)},
		{small(3, 2)},
		{small(7, 1)},
		{ratOf(false, []uint32{most, 1}, []uint32{1})},
		{ratOf(false, []uint32{0, 2}, []uint32{1})},
	}
	for i, row := range rising {
		for j, other := range rising {
			want := 0
			if i != j {
				want = (i - j) / max(i-j, j-i)
			}
			for _, a := range row {
				for _, b := range other {
					if got := rat.Cmp(a, b); got != want {
						t.Error("Cmp", a, b, got)
					}
				}
			}
		}
	}
}

// P2.2, P2.3
func TestArithmeticOnManyNumbers(t *testing.T) {
	pairs(func(a, b api.Rat) {
		x, y := value(a), value(b)
		expect(t, rat.Add(a, b), new(big.Rat).Add(x, y), "Add", a, b)
		expect(t, rat.Sub(a, b), new(big.Rat).Sub(x, y), "Sub", a, b)
		expect(t, rat.Mul(a, b), new(big.Rat).Mul(x, y), "Mul", a, b)
		expect(t, rat.Neg(a), new(big.Rat).Neg(x), "Neg", a)
		if got := rat.Cmp(a, b); got != x.Cmp(y) {
			t.Fatal("Cmp", a, b, got)
		}
		if rat.Same(a, b) != (x.Cmp(y) == 0) {
			t.Fatal("Same", a, b)
		}
		got, ok := rat.Div(a, b)
		if ok != (y.Sign() != 0) {
			t.Fatal("Div", a, b, ok)
		}
		want := new(big.Rat)
		if ok {
			want.Quo(x, y)
		}
		expect(t, got, want, "Div", a, b)
	})
}

// P2.2
func TestFloorByHand(t *testing.T) {
	tests := []struct{ a, want api.Rat }{
		{nought(), nought()}, {api.Rat{}, nought()}, {ratOf(true, []uint32{0, 0}, []uint32{7}), nought()},
		{small(5, 0), nought()}, {small(-5, 0), nought()}, {ratOf(true, []uint32{5}, nil), nought()},
		{small(1, 2), nought()}, {small(2, 2), small(1, 1)}, {small(7, 2), small(3, 1)}, {small(8, 2), small(4, 1)}, {small(9, 2), small(4, 1)},
		{small(-1, 2), small(-1, 1)}, {small(-2, 2), small(-1, 1)}, {small(-3, 2), small(-2, 1)}, {small(-4, 2), small(-2, 1)},
		{small(-1, most), small(-1, 1)}, {small(-7, 1), small(-7, 1)}, {small(7, 1), small(7, 1)}, {small(-most, 1), small(-most, 1)},
		{ratOf(true, []uint32{9, 0}, []uint32{6, 0, 0}), small(-2, 1)}, {ratOf(true, []uint32{12, 0}, []uint32{6, 0, 0}), small(-2, 1)},
		{ratOf(true, []uint32{most, most}, []uint32{0, 1}), ratOf(true, []uint32{0, 1}, []uint32{1})},
		{ratOf(false, []uint32{most, most}, []uint32{0, 1}), small(most, 1)},
		{ratOf(true, []uint32{0, 0, 1}, []uint32{0, 1}), ratOf(true, []uint32{0, 1}, []uint32{1})},
	}
	for _, x := range tests {
		expectAlike(t, rat.Floor(x.a), x.want, "Floor", x.a)
	}
}

// floor is rounded down by the library: its Euclid's division leaves a rest
// that is not below 0.
func floor(x *big.Rat) *big.Rat {
	return new(big.Rat).SetInt(new(big.Int).Div(x.Num(), x.Denom()))
}

// P2.2
func TestFloorOnManyNumbers(t *testing.T) {
	r := rand.New(rand.NewSource(5))
	all := rough()
	for range 3000 {
		a := randomRat(r, 8)
		// Whole numbers of its N, too, written by a D that is not 1.
		n := natural(a.N)
		all = append(all, a, ratOf(a.Neg, limbs(n.Mul(n, natural(a.D))), a.D))
	}
	for _, a := range all {
		expect(t, rat.Floor(a), floor(value(a)), "Floor", a)
		if rest := rat.Sub(a, rat.Floor(a)); rest.Neg || rat.Cmp(rest, rat.Int(1)) >= 0 {
			t.Fatal("Floor is above it, or a whole number is between", a)
		}
	}
}

// P2.1, P2.2: nothing bounds how many limbs there are.
func TestLongNumbers(t *testing.T) {
	r := rand.New(rand.NewSource(13))
	a := ratOf(true, append(randomRow(r, 600), 1, 0), append(randomRow(r, 300), 1))
	b := ratOf(false, append(randomRow(r, 200), 1), append(randomRow(r, 500), 1, 0))
	x, y := value(a), value(b)
	expect(t, rat.Norm(a), x, "Norm of long parts")
	expect(t, rat.Add(a, b), new(big.Rat).Add(x, y), "Add of long parts")
	expect(t, rat.Mul(a, b), new(big.Rat).Mul(x, y), "Mul of long parts")
	expect(t, rat.Floor(a), floor(x), "Floor of long parts")
	got, ok := rat.Div(a, b)
	if expect(t, got, new(big.Rat).Quo(x, y), "Div of long parts"); !ok {
		t.Error("Div of long parts")
	}
	if !rat.Large(a) || rat.Cmp(a, b) != -1 || rat.Same(a, b) {
		t.Error("Large, Cmp or Same of long parts")
	}
}

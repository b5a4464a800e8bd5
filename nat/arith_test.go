package nat_test

import (
	"math"
	"math/big"
	"math/rand"
	"slices"
	"testing"

	"pantograph/nat"
)

// P1.2, and the chapter's example
func TestAddSubMulByHand(t *testing.T) {
	if got := nat.Mul([]uint32{most}, []uint32{2}); !slices.Equal(got, []uint32{4294967294, 1}) {
		t.Error("Mul", got)
	}
	if got := nat.Add([]uint32{most, most}, []uint32{1}); !slices.Equal(got, []uint32{0, 0, 1}) {
		t.Error("Add", got)
	}
	if got := nat.Add([]uint32{1, 0}, []uint32{most, most, most, 0}); !slices.Equal(got, []uint32{0, 0, 0, 1}) {
		t.Error("Add", got)
	}
	if got, ok := nat.Sub([]uint32{0, 0, 1}, []uint32{1, 0}); !ok || !slices.Equal(got, []uint32{most, most}) {
		t.Error("Sub", got, ok)
	}
	if got, ok := nat.Sub([]uint32{5, 7}, []uint32{5, 7, 0}); !ok || len(got) != 0 {
		t.Error("Sub of two that are one", got, ok)
	}
	for _, x := range [][2][]uint32{{nil, {1}}, {{1}, {2}}, {{most}, {0, 1}}, {{0, 0}, {1, 0}}, {{6, 7}, {7, 7}}, {{most, 7}, {0, 8}}} {
		if got, ok := nat.Sub(x[0], x[1]); ok || len(got) != 0 {
			t.Error("Sub below 0", x, got, ok)
		}
	}
	if len(nat.Add(nil, []uint32{0, 0})) != 0 || len(nat.Mul([]uint32{5, 6}, []uint32{0})) != 0 || len(nat.Mul(nil, nil)) != 0 {
		t.Error("noughts")
	}
}

// P1.2
func TestAddSubMulOnManyRows(t *testing.T) {
	pairs(func(a, b []uint32) {
		m, n := value(a), value(b)
		expect(t, nat.Add(a, b), new(big.Int).Add(m, n), "Add", a, b)
		expect(t, nat.Mul(a, b), new(big.Int).Mul(m, n), "Mul", a, b)
		less, ok := nat.Sub(a, b)
		if ok != (m.Cmp(n) >= 0) {
			t.Fatal("Sub", a, b, less, ok)
		}
		if !ok && len(less) != 0 {
			t.Fatal("Sub below 0 answers", a, b, less)
		}
		if ok {
			expect(t, less, new(big.Int).Sub(m, n), "Sub", a, b)
		}
	})
}

// P1.2
func TestDivModByHand(t *testing.T) {
	for _, a := range [][]uint32{nil, {0}, {7}, {7, 0}, {1, 2, 3}} {
		for _, b := range [][]uint32{nil, {}, {0}, {0, 0, 0}} {
			if q, r, ok := nat.DivMod(a, b); ok || len(q)+len(r) != 0 {
				t.Error("DivMod by 0", a, b, q, r, ok)
			}
		}
	}
	tests := []struct{ a, b, q, r []uint32 }{
		{nil, []uint32{5}, nil, nil},
		{[]uint32{0, 0}, []uint32{5, 0}, nil, nil},
		{[]uint32{7}, []uint32{2}, []uint32{3}, []uint32{1}},
		{[]uint32{7, 0}, []uint32{8, 0, 0}, nil, []uint32{7}},
		{[]uint32{0, 1}, []uint32{0, 1}, []uint32{1}, nil},
		{[]uint32{5, 6, 7}, []uint32{1, 0}, []uint32{5, 6, 7}, nil},
		{[]uint32{0, 1}, []uint32{most}, []uint32{1}, []uint32{1}},
		// Digits guessed by the highest limbs alone are too great here.
		{[]uint32{3, 0, 1 << 31}, []uint32{1, 0, 1 << 29}, []uint32{3}, []uint32{0, 0, 1 << 29}},
		{[]uint32{0, 0, 1 << 31, 1<<31 - 1}, []uint32{1, 0, 1 << 31}, []uint32{most - 1}, []uint32{2, most, 1<<31 - 1}},
		{[]uint32{0, most - 1, 1 << 31}, []uint32{most, 1 << 31}, []uint32{most}, []uint32{most, 1<<31 - 1}},
	}
	for _, x := range tests {
		q, r, ok := nat.DivMod(x.a, x.b)
		if !ok || !slices.Equal(q, x.q) || !slices.Equal(r, x.r) {
			t.Error("DivMod", x.a, x.b, q, r, ok)
		}
	}
}

// P1.2, P1.4
func TestDivModOnManyRows(t *testing.T) {
	check := func(a, b []uint32) {
		q, r, ok := nat.DivMod(a, b)
		m, n := value(a), value(b)
		if ok != (n.Sign() > 0) {
			t.Fatal("DivMod", a, b, ok)
		}
		if !ok {
			return
		}
		wantQ, wantR := new(big.Int).QuoRem(m, n, new(big.Int))
		expect(t, q, wantQ, "DivMod, how often", a, b)
		expect(t, r, wantR, "DivMod, what is left", a, b)
		if nat.Cmp(nat.Add(nat.Mul(q, b), r), a) != 0 || nat.Cmp(r, b) >= 0 {
			t.Fatal("a is not q times b and r", a, b, q, r)
		}
	}
	pairs(check)
	// Dividends around a multiple of the divisor are where a digit turns.
	pairs(func(q, b []uint32) {
		multiple := new(big.Int).Mul(value(q), value(b))
		check(limbs(multiple), b)
		check(limbs(new(big.Int).Add(multiple, big.NewInt(1))), b)
		if multiple.Sign() > 0 {
			check(limbs(new(big.Int).Sub(multiple, big.NewInt(1))), b)
		}
	})
}

// P1.2
func TestGcdByHand(t *testing.T) {
	tests := []struct{ a, b, want []uint32 }{
		{nil, nil, nil}, {[]uint32{0}, []uint32{0, 0}, nil},
		{nil, []uint32{5, 0}, []uint32{5}}, {[]uint32{5, 6, 0}, []uint32{0}, []uint32{5, 6}},
		{[]uint32{5, 6, 7}, nil, []uint32{5, 6, 7}}, {[]uint32{0}, []uint32{5, 6, 7, 0}, []uint32{5, 6, 7}},
		{[]uint32{12}, []uint32{18, 0}, []uint32{6}}, {[]uint32{18}, []uint32{12}, []uint32{6}},
		{[]uint32{7}, []uint32{7}, []uint32{7}}, {[]uint32{1}, []uint32{most, most, most}, []uint32{1}},
		{[]uint32{0, 0, 12}, []uint32{0, 0, 0, 18}, []uint32{0, 0, 12}},
	}
	for _, x := range tests {
		if got := nat.Gcd(x.a, x.b); !slices.Equal(got, x.want) {
			t.Error("Gcd", x.a, x.b, got)
		}
	}
}

// P1.2
func TestGcdOnManyRows(t *testing.T) {
	check := func(a, b []uint32) {
		expect(t, nat.Gcd(a, b), new(big.Int).GCD(nil, nil, value(a), value(b)), "Gcd", a, b)
	}
	pairs(check)
	r := rand.New(rand.NewSource(5))
	for range 1000 {
		common := value(randomRow(r, r.Intn(5)))
		a := new(big.Int).Mul(common, value(randomRow(r, r.Intn(5))))
		b := new(big.Int).Mul(common, value(randomRow(r, r.Intn(5))))
		check(limbs(a), append(limbs(b), 0))
	}
	// Neighbours of Fibonacci's row take the most steps.
	a, b := big.NewInt(0), big.NewInt(1)
	for range 1500 {
		a, b = b, new(big.Int).Add(a, b)
	}
	check(limbs(a), limbs(b))
}

// P1.2
func TestShiftByHand(t *testing.T) {
	tests := []struct {
		a    []uint32
		n    int
		want []uint32
	}{
		{nil, 0, nil}, {nil, 99, nil}, {[]uint32{0, 0}, 4096, nil}, {nil, -99, nil}, {[]uint32{0}, math.MinInt, nil},
		{[]uint32{7, 0}, 0, []uint32{7}}, {[]uint32{1}, 31, []uint32{1 << 31}}, {[]uint32{1}, 32, []uint32{0, 1}},
		{[]uint32{1}, 33, []uint32{0, 2}}, {[]uint32{most}, 1, []uint32{most - 1, 1}}, {[]uint32{3, 0, 0}, 64, []uint32{0, 0, 3}},
		{[]uint32{7}, -1, []uint32{3}}, {[]uint32{7}, -2, []uint32{1}}, {[]uint32{7}, -3, nil}, {[]uint32{most, most}, -32, []uint32{most}},
		{[]uint32{0, 2}, -33, []uint32{1}}, {[]uint32{1, 1}, -4, []uint32{1 << 28}}, {[]uint32{5, 6, 7, 0}, -64, []uint32{7}}, {[]uint32{5, 6, 7}, -96, nil},
	}
	for _, x := range tests {
		if got := nat.Shift(x.a, x.n); !slices.Equal(got, x.want) {
			t.Error("Shift", x.a, x.n, got)
		}
	}
}

// P1.2: n is held within -2^12 and 2^12.
func TestShiftOnManyRows(t *testing.T) {
	r := rand.New(rand.NewSource(11))
	rows := append(edges(), randomRow(r, 128), randomRow(r, 129), append(randomRow(r, 200), 1, 0), slices.Repeat([]uint32{most}, 300))
	steps := []int{1 << 11, 4095, 4096, 4097, 5000, 1 << 16, 1 << 20, math.MaxInt32, 1<<32 + 1, math.MaxInt - 1, math.MaxInt}
	for n := range 140 {
		steps = append(steps, n)
	}
	for _, n := range steps {
		held := uint(min(n, 1<<12))
		for _, a := range rows {
			expect(t, nat.Shift(a, n), new(big.Int).Lsh(value(a), held), "Shift", a, n)
			expect(t, nat.Shift(a, -n), new(big.Int).Rsh(value(a), held), "Shift", a, -n)
		}
	}
	for _, a := range rows {
		expect(t, nat.Shift(a, math.MinInt), new(big.Int).Rsh(value(a), 1<<12), "Shift by the least int", a)
	}
}

// P1.2: nothing but the memory bounds how many limbs there are.
func TestLongRows(t *testing.T) {
	r := rand.New(rand.NewSource(13))
	a, b := append(randomRow(r, 3000), 1), append(randomRow(r, 1000), 1, 0)
	m, n := value(a), value(b)
	expect(t, nat.Add(a, b), new(big.Int).Add(m, n), "Add of long rows")
	expect(t, nat.Mul(a, b), new(big.Int).Mul(m, n), "Mul of long rows")
	expect(t, nat.Gcd(a, b), new(big.Int).GCD(nil, nil, m, n), "Gcd of long rows")
	q, rest, _ := nat.DivMod(a, b)
	wantQ, wantR := new(big.Int).QuoRem(m, n, new(big.Int))
	expect(t, q, wantQ, "DivMod of long rows, how often")
	expect(t, rest, wantR, "DivMod of long rows, what is left")
	if got := nat.Print(a); got != m.String() {
		t.Error("Print of a long row", got)
	}
}

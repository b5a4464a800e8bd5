package nat_test

import (
	"math/big"
	"math/rand"
	"slices"
	"testing"

	"pantograph/nat"
)

// P1.1
func TestIsAndTrim(t *testing.T) {
	tests := []struct {
		a    []uint32
		is   bool
		want []uint32
	}{
		{nil, true, nil},
		{[]uint32{}, true, nil},
		{[]uint32{0}, false, nil},
		{[]uint32{0, 0, 0}, false, nil},
		{[]uint32{1}, true, []uint32{1}},
		{[]uint32{most}, true, []uint32{most}},
		{[]uint32{1, 0}, false, []uint32{1}},
		{[]uint32{0, 1}, true, []uint32{0, 1}},
		{[]uint32{0, 0, 1 << 31}, true, []uint32{0, 0, 1 << 31}},
		{[]uint32{0, 7, 0, 0}, false, []uint32{0, 7}},
		{[]uint32{7, 0, 0, 7, 0}, false, []uint32{7, 0, 0, 7}},
	}
	for _, x := range tests {
		if nat.Is(x.a) != x.is {
			t.Error("Is", x.a)
		}
		if got := nat.Trim(x.a); !slices.Equal(got, x.want) {
			t.Error("Trim", x.a, got)
		}
	}
	long := make([]uint32, 100000)
	if nat.Is(long) || len(nat.Trim(long)) != 0 {
		t.Error("Trim of many noughts")
	}
	long[0] = 5
	if nat.Is(long) || !slices.Equal(nat.Trim(long), []uint32{5}) {
		t.Error("Trim of many noughts behind a limb")
	}
}

// P1.1
func TestOfAndTo(t *testing.T) {
	tests := []struct {
		n    uint64
		want []uint32
	}{
		{0, nil}, {1, []uint32{1}}, {most - 1, []uint32{most - 1}}, {most, []uint32{most}},
		{most + 1, []uint32{0, 1}}, {most + 2, []uint32{1, 1}}, {1 << 40, []uint32{0, 256}},
		{1 << 63, []uint32{0, 1 << 31}}, {1<<63 - 1, []uint32{most, 1<<31 - 1}},
		{1<<64 - 1, []uint32{most, most}}, {1<<64 - 1<<32, []uint32{0, most}},
	}
	for _, x := range tests {
		if got := nat.Of(x.n); !slices.Equal(got, x.want) {
			t.Error("Of", x.n, got)
		}
		for noughts := range 4 {
			a := append(slices.Clone(x.want), make([]uint32, noughts)...)
			if n, ok := nat.To(a); n != x.n || !ok {
				t.Error("To", a, n, ok)
			}
		}
	}
	for _, a := range [][]uint32{{0, 0, 1}, {5, 0, 1}, {5, 6, 1, 0}, {most, most, most}, {0, 0, 0, 1}, {3, 0, 0, 0, 1, 0}} {
		if n, ok := nat.To(a); n != 0 || ok {
			t.Error("To", a, n, ok)
		}
	}
}

// P1.1
func TestCmp(t *testing.T) {
	tests := []struct {
		a, b []uint32
		want int
	}{
		{nil, nil, 0}, {nil, []uint32{0, 0}, 0}, {[]uint32{0}, []uint32{1}, -1}, {[]uint32{1}, nil, 1},
		{[]uint32{3, 0, 0}, []uint32{3}, 0}, {[]uint32{3, 0, 0}, []uint32{4}, -1}, {[]uint32{3}, []uint32{2, 0, 0}, 1},
		{[]uint32{most}, []uint32{0, 1}, -1}, {[]uint32{9, 1}, []uint32{1, 9}, -1}, {[]uint32{1 << 31}, []uint32{1}, 1},
		{[]uint32{1, 5, 7}, []uint32{2, 5, 7}, -1}, {[]uint32{1, 6, 7}, []uint32{2, 5, 7}, 1}, {[]uint32{1, 5, 7}, []uint32{1, 5, 7, 0}, 0},
	}
	for _, x := range tests {
		if got := nat.Cmp(x.a, x.b); got != x.want {
			t.Error("Cmp", x.a, x.b, got)
		}
	}
	pairs(func(a, b []uint32) {
		if got := nat.Cmp(a, b); got != value(a).Cmp(value(b)) {
			t.Fatal("Cmp", a, b, got)
		}
	})
}

// P1.1
func TestBits(t *testing.T) {
	for _, a := range [][]uint32{nil, {}, {0}, {0, 0, 0}} {
		if got := nat.Bits(a); got != 0 {
			t.Error("Bits", a, got)
		}
	}
	for n := 1; n <= 200; n++ {
		top := new(big.Int).Lsh(big.NewInt(1), uint(n-1))
		full := new(big.Int).Sub(new(big.Int).Lsh(top, 1), big.NewInt(1))
		for _, a := range [][]uint32{limbs(top), append(limbs(top), 0, 0), limbs(full), append(limbs(full), 0)} {
			if got := nat.Bits(a); got != n {
				t.Error("Bits", a, got)
			}
		}
	}
}

// P1.1: what is answered is trimmed, whatever noughts were handed in.
func TestPlainCallsOnManyRows(t *testing.T) {
	r := rand.New(rand.NewSource(3))
	for range 2000 {
		a := append(randomRow(r, r.Intn(6)), make([]uint32, r.Intn(3))...)
		n := value(a)
		want := limbs(n)
		if nat.Is(a) != (len(a) == len(want)) || !slices.Equal(nat.Trim(a), want) || nat.Bits(a) != n.BitLen() {
			t.Fatal(a)
		}
		got, ok := nat.To(a)
		if ok != n.IsUint64() || ok && got != n.Uint64() || !ok && got != 0 {
			t.Fatal("To", a, got, ok)
		}
		if ok && !slices.Equal(nat.Of(got), want) {
			t.Fatal("Of", got)
		}
	}
}

package dec_test

import (
	"math"
	"math/big"
	"math/rand"
	"strings"
	"testing"

	"pantograph/api"
	"pantograph/dec"
	"pantograph/rat"
)

// fewest is how many digits behind the point tell a number; -1, if no 60 do.
func fewest(x *big.Rat) int {
	for n := range 61 {
		if new(big.Rat).Mul(x, new(big.Rat).SetInt(power(10, n))).IsInt() {
			return n
		}
	}
	return -1
}

// P3.2, and the chapter's example
func TestExactByHand(t *testing.T) {
	tests := []struct {
		a    api.Rat
		want string
	}{
		{small(1, 8), "0.125"}, {small(-1, 8), "-0.125"}, {small(1, 2), "0.5"}, {small(-3, 2), "-1.5"}, {small(1, 10), "0.1"}, {small(1, 1000), "0.001"},
		{small(1, 1), "1"}, {small(-7, 1), "-7"}, {small(10, 1), "10"}, {small(-1200, 1), "-1200"}, {small(1000000, 1), "1000000"},
		{small(201, 2), "100.5"}, {small(-2001, 20), "-100.05"}, {small(10100, 1000), "10.1"}, {small(617, 50), "12.34"},
		// These are not normal.
		{small(3, 6), "0.5"}, {small(-6, 3), "-2"}, {small(30, 3), "10"}, {small(9, 24), "0.375"}, {ratOf(true, []uint32{21, 0}, []uint32{6, 0, 0}), "-3.5"},
		{ratOf(false, []uint32{0, 7}, []uint32{0, 2}), "3.5"}, {ratOf(true, []uint32{5, 0}, []uint32{1, 0}), "-5"},
		{ratOf(false, []uint32{1}, []uint32{0, 1}), "0.00000000023283064365386962890625"}, {ratOf(false, []uint32{0, 1}, []uint32{1}), "4294967296"},
	}
	for _, x := range tests {
		if got, ok := dec.Exact(x.a); !ok || got != x.want {
			t.Error("Exact", x.a, got, ok)
		}
	}
	for _, a := range noughts() {
		if got, ok := dec.Exact(a); !ok || got != "0" {
			t.Error("Exact of a 0", a, got, ok)
		}
	}
}

// P3.2: 60 digits behind the point are not too many, 61 are.
func TestExactOfJustSixtyDigits(t *testing.T) {
	for _, base := range []int64{2, 5, 10} {
		for _, n := range []string{"1", "-1", "3", "-777", "7" + digits("0", 80) + "1"} {
			by := func(places int) *big.Rat { return new(big.Rat).Quo(read(n), new(big.Rat).SetInt(power(base, places))) }
			for _, places := range []int{1, 59, 60} {
				x := by(places)
				if got, ok := dec.Exact(normal(x)); !ok || got != x.FloatString(places) {
					t.Error("Exact", n, "by", base, "to the power", places, got, ok)
				}
			}
			for _, places := range []int{61, 62, 64, 99, 400} {
				if got, ok := dec.Exact(normal(by(places))); ok || got != "" {
					t.Error("Exact", n, "by", base, "to the power", places, got, ok)
				}
			}
		}
	}
	// What counts is the number as Norm makes it.
	half := twisted(normal(new(big.Rat).SetFrac(big.NewInt(1), power(2, 60))), 3*1024, 2)
	if got, ok := dec.Exact(half); !ok || len(got) != len("0.")+60 {
		t.Error("Exact of a number that is not normal", got, ok)
	}
}

// P3.2
func TestExactOfNumbersThatNoDigitsTell(t *testing.T) {
	for _, a := range []api.Rat{
		small(1, 3), small(-1, 3), small(2, 3), small(10, 3), small(1, 6), small(1, 7), small(-1, 9), small(1, 30), small(1000000, 3), small(22, 7), small(1, 11), small(1, 99),
		small(1, most), ratOf(false, []uint32{most, most}, []uint32{3, 1}), ratOf(true, []uint32{4, 0}, []uint32{6, 0}),
		normal(read("1/3" + digits("0", 60))), normal(read("1" + digits("0", 61) + "/3")),
	} {
		if got, ok := dec.Exact(a); ok || got != "" {
			t.Error("Exact", a, got, ok)
		}
	}
}

// P3.2: the digits ahead of the point do not count.
func TestExactOfGreatNumbers(t *testing.T) {
	for _, s := range []string{
		digits("9", 60), digits("9", 61), "1" + digits("0", 60), "-1" + digits("0", 61), digits("7", 155), "1" + digits("0", 300),
		digits("9", 61) + ".5", "-1" + digits("0", 100) + ".25", digits("8", 300) + "." + digits("0", 59) + "1",
	} {
		if got, ok := dec.Exact(normal(read(s))); !ok || got != s {
			t.Error("Exact", s, got, ok)
		}
	}
}

// P3.2, P3.3
func TestExactOnManyNumbers(t *testing.T) {
	told := 0
	many(func(a api.Rat) {
		x := value(a)
		places := fewest(x)
		got, ok := dec.Exact(a)
		if ok != (places >= 0) {
			t.Fatal("Exact", a, got, ok)
		}
		if !ok {
			if got != "" {
				t.Fatal("Exact answers digits that do not tell it", a, got)
			}
			return
		}
		told++
		if got != x.FloatString(places) {
			t.Fatal("Exact", a, got)
		}
		if len(got) > 400 {
			expectRefused(t, got, api.ErrLong)
			return
		}
		expectParsed(t, got, x)
		if again, _ := dec.Parse(got); !rat.Same(again, a) {
			t.Fatal("Parse of Exact is not the number", a, again)
		}
	})
	if told < 1000 {
		t.Error("few of the numbers are told by digits:", told)
	}
}

// nearest is rounded by the library: of the two neighbours of so many digits
// the nearer one, or the even one.
func nearest(x *big.Rat, places int) *big.Rat {
	unit := new(big.Rat).SetFrac(big.NewInt(1), power(10, places))
	units := new(big.Rat).Quo(x, unit)
	below := new(big.Int).Div(units.Num(), units.Denom())
	rest := new(big.Rat).Sub(units, new(big.Rat).SetInt(below))
	side := rest.Cmp(big.NewRat(1, 2))
	if side > 0 || side == 0 && below.Bit(0) == 1 {
		below.Add(below, big.NewInt(1))
	}
	return unit.Mul(unit, new(big.Rat).SetInt(below))
}

func expectRounded(t *testing.T, a api.Rat, scale int) {
	t.Helper()
	held := min(max(scale, 0), 9)
	want := nearest(value(a), held)
	expect(t, dec.Round(a, scale), want, "Round", a, scale)
	if got := dec.Fixed(a, scale); got != want.FloatString(held) {
		t.Fatal("Fixed", a, scale, got)
	}
}

// P3.2, and the chapter's examples
func TestRoundAndFixedByHand(t *testing.T) {
	tests := []struct {
		a     string
		scale int
		want  string
	}{
		{"5/2", 0, "2"}, {"-1/8", 2, "-0.12"}, {"0", 0, "0"}, {"0", 2, "0.00"}, {"0", 9, "0.000000000"},
		{"1", 0, "1"}, {"-1", 0, "-1"}, {"1", 3, "1.000"}, {"-10", 1, "-10.0"}, {"100", 2, "100.00"}, {"-1200", 0, "-1200"},
		// Of two that are as near, that whose last digit is even.
		{"0.5", 0, "0"}, {"1.5", 0, "2"}, {"2.5", 0, "2"}, {"3.5", 0, "4"}, {"8.5", 0, "8"}, {"9.5", 0, "10"}, {"10.5", 0, "10"}, {"99.5", 0, "100"},
		{"-0.5", 0, "0"}, {"-1.5", 0, "-2"}, {"-2.5", 0, "-2"}, {"-9.5", 0, "-10"}, {"-10.5", 0, "-10"},
		{"0.05", 1, "0.0"}, {"0.15", 1, "0.2"}, {"0.25", 1, "0.2"}, {"0.95", 1, "1.0"}, {"-0.05", 1, "0.0"}, {"-0.15", 1, "-0.2"}, {"-0.95", 1, "-1.0"},
		{"0.125", 2, "0.12"}, {"0.375", 2, "0.38"}, {"0.135", 2, "0.14"}, {"0.005", 2, "0.00"}, {"0.015", 2, "0.02"}, {"-0.005", 2, "0.00"}, {"-0.995", 2, "-1.00"},
		{"0.0000000005", 9, "0.000000000"}, {"0.0000000015", 9, "0.000000002"}, {"-0.0000000005", 9, "0.000000000"}, {"-0.0000000025", 9, "-0.000000002"},
		{"4294967294.5", 0, "4294967294"}, {"4294967295.5", 0, "4294967296"}, {"4294967296.5", 0, "4294967296"}, {"4294967297.5", 0, "4294967298"}, {"18446744073709551615.5", 0, "18446744073709551616"},
		// Nearer to one of them.
		{"0.4999999999999999999999", 0, "0"}, {"0.5000000000000000000001", 0, "1"}, {"2.5000000000000000000001", 0, "3"}, {"1.4999999999999999999999", 0, "1"},
		{"-0.4999999999999999999999", 0, "0"}, {"-0.5000000000000000000001", 0, "-1"}, {"-2.5000000000000000000001", 0, "-3"},
		{"1/3", 0, "0"}, {"2/3", 0, "1"}, {"-1/3", 0, "0"}, {"-2/3", 0, "-1"}, {"1/3", 4, "0.3333"}, {"2/3", 4, "0.6667"}, {"-1/3", 9, "-0.333333333"}, {"-2/3", 9, "-0.666666667"},
		{"22/7", 2, "3.14"}, {"-22/7", 5, "-3.14286"}, {"1/1000", 2, "0.00"}, {"-1/1000", 2, "0.00"}, {"6/1000", 2, "0.01"}, {"-6/1000", 2, "-0.01"}, {"1/1000", 3, "0.001"}, {"-1/1000", 3, "-0.001"},
		{"0.999", 2, "1.00"}, {"9.999", 2, "10.00"}, {"-99.996", 2, "-100.00"}, {"12.34", 1, "12.3"}, {"12.36", 1, "12.4"}, {"12.34", 2, "12.34"}, {"12.34", 4, "12.3400"},
		// Scales are held within 0 and MaxScale.
		{"12.5", -1, "12"}, {"13.5", -1, "14"}, {"155", -1, "155"}, {"155", -2, "155"}, {"-155.6", math.MinInt, "-156"}, {"-1/3", -9, "0"}, {"0.06", -1, "0"},
		{"1/3", 10, "0.333333333"}, {"-2/3", 11, "-0.666666667"}, {"1", 100, "1.000000000"}, {"0", 400, "0.000000000"}, {"1/3", math.MaxInt, "0.333333333"},
		{"0.00000000005", 10, "0.000000000"}, {"0.00000000051", 10, "0.000000001"}, {"-0.0000000001", 10, "0.000000000"},
	}
	for _, x := range tests {
		a := normal(read(x.a))
		for _, a := range []api.Rat{a, twisted(a, 6, 0), twisted(a, 1, 2), twisted(a, 1<<40, 1)} {
			if got := dec.Fixed(a, x.scale); got != x.want {
				t.Error("Fixed", x.a, x.scale, "is", got, "not", x.want)
			}
			if got := dec.Round(a, x.scale); !alike(got, normal(read(x.want))) {
				t.Error("Round", x.a, x.scale, got)
			}
		}
	}
}

// P3.2
func TestRoundAndFixedOfNoughts(t *testing.T) {
	for _, a := range noughts() {
		for scale := -2; scale <= 12; scale++ {
			want := digits("0", 1+min(max(scale, 0), 9))
			if len(want) > 1 {
				want = "0." + want[1:]
			}
			if got := dec.Fixed(a, scale); got != want {
				t.Error("Fixed of a 0", a, scale, got)
			}
			expect(t, dec.Round(a, scale), new(big.Rat), "Round of a 0", a, scale)
		}
	}
}

// P3.2
func TestRoundAndFixedOnManyNumbers(t *testing.T) {
	r := rand.New(rand.NewSource(5))
	beyond := []int{math.MinInt, math.MinInt + 1, -1 << 32, -10, -9, -1, 10, 11, 16, 60, 1 << 31, 1<<32 + 2, 1<<40 + 5, math.MaxInt - 1, math.MaxInt}
	many(func(a api.Rat) {
		expectRounded(t, a, r.Intn(10))
		expectRounded(t, a, r.Intn(10))
		expectRounded(t, a, beyond[r.Intn(len(beyond))])
	})
}

// P3.2: around each number of few digits, and around each middle of two.
func TestRoundAndFixedAroundMiddles(t *testing.T) {
	for scale := range 10 {
		unit := new(big.Rat).SetFrac(big.NewInt(1), power(10, scale))
		for halves := int64(-45); halves <= 45; halves++ {
			middle := new(big.Rat).Mul(big.NewRat(halves, 2), unit)
			for _, aside := range []string{"0", "1/1" + digits("0", 70), "-1/1" + digits("0", 70), "1/30", "-1/30"} {
				x := new(big.Rat).Mul(read(aside), unit)
				x.Add(x, middle)
				expectRounded(t, normal(x), scale)
				expectRounded(t, twisted(normal(x), 10, 1), scale)
				x.Add(x, new(big.Rat).SetInt(power(2, 96)))
				expectRounded(t, normal(x), scale)
			}
		}
	}
}

// P3.2: what stays when it is rounded, and how it is shown.
func TestRoundTwice(t *testing.T) {
	many(func(a api.Rat) {
		for _, scale := range []int{-3, 0, 1, 4, 9, 12} {
			once := dec.Round(a, scale)
			if !alike(dec.Round(once, scale), once) || !rat.Is(once) {
				t.Fatal("Round of Round", a, scale, once)
			}
			shown := dec.Fixed(a, scale)
			if dec.Fixed(once, scale) != shown || strings.HasPrefix(shown, "-") != once.Neg {
				t.Fatal("Fixed of Round", a, scale, shown)
			}
			_, behind, found := strings.Cut(shown, ".")
			if held := min(max(scale, 0), api.MaxScale); found != (held > 0) || len(behind) != held {
				t.Fatal("Fixed has not just so many digits", a, scale, shown)
			}
		}
	})
}

// W1: nothing bounds how many limbs there are.
func TestLongNumbers(t *testing.T) {
	r := rand.New(rand.NewSource(13))
	long := ratOf(true, append(randomRow(r, 600), 1, 0), append(randomRow(r, 300), 1))
	tiny := ratOf(true, append(randomRow(r, 200), 1), append(randomRow(r, 600), 1, 0))
	for _, a := range []api.Rat{long, tiny, ratOf(true, long.N, long.N), ratOf(false, long.N, nil)} {
		expectRounded(t, a, 0)
		expectRounded(t, a, 9)
	}
	if got, ok := dec.Exact(long); ok || got != "" {
		t.Error("Exact of long parts", got, ok)
	}
	whole := ratOf(false, append(randomRow(r, 600), 1), []uint32{1})
	if got, ok := dec.Exact(whole); !ok || got != natural(whole.N).String() {
		t.Error("Exact of a long whole number", got, ok)
	}
}

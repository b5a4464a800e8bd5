package run_test

import (
	"math/big"
	"math/rand"
	"slices"
	"strings"
	"testing"

	"pantograph/api"
	"pantograph/run"
)

// P14.2: the values along some choices.
func TestRun(t *testing.T) {
	for _, x := range []struct{ equations, val, want string }{
		{"", "1", "1"}, {"", "0 -1/2 7", "0 -1/2 7"}, {"a = b > b, a = 5 > a", "0 0", "5 5"},
		// Nobody tells.
		{"a = 5", "1", "1"}, {"a = b, b = 2, b = c", "1 7 3", "1 7 3"}, {"0 = 1", "4", "4"}, {"0 = 0", "4", "4"},
		// One Term, of each kind of C.
		{"a = 5 > a", "0", "5"}, {"a = 5 > a", "5", "5"}, {"a = 5 > a", "-1/7", "5"}, {"-a = 5 > a", "1", "-5"}, {"a = -5 > a", "1", "-5"}, {"0 - a = -5 > a", "1", "5"}, {"a = 0 > a", "1", "0"}, {"-a = 0 > a", "-1", "0"}, {"2*a = 3 > a", "0", "3/2"}, {"2*a = 6 > a", "0", "3"}, {"-2*a = 3 > a", "0", "-3/2"}, {"a/3 = 2 > a", "1", "6"}, {"a/3 = -2/9 > a", "1", "-2/3"}, {"-2/3*a = 1/7 > a", "1", "-3/14"}, {"7/5*a = 7/5 > a", "9", "1"}, {"6*a = 4 > a", "9", "2/3"}, {"5*a = 0 > a", "9", "0"}, {"a = 1/3 > a", "0", "1/3"}, {"b = 7 > b", "1 2 3", "1 7 3"},
		// Many Terms; the one that is told in each place.
		{"a = b > a", "1 2", "2 2"}, {"a = b > b", "1 2", "1 1"}, {"a + b = 0 > b", "1 2", "1 -1"}, {"a + b + c = 6 > a", "7 2 3", "1 2 3"}, {"a + b + c = 6 > b", "1 7 3", "1 2 3"}, {"a + b + c = 6 > c", "1 2 7", "1 2 3"}, {"a + 2*b - 3*c + 1/2*d = 1/6 > c", "1 2 9 3", "1 2 19/9 3"}, {"a + 2*b - 3*c + 1/2*d = 1/6 > d", "1 2 3 4", "1 2 3 25/3"}, {"2*a - 4*b = 6 > a", "9 1/2", "4 1/2"}, {"2*a - 4*b = 6 > b", "9 1/2", "9 3"}, {"b = d > d", "1 2 3 4", "1 2 3 2"}, {"a = b - c > a", "0 2/3 2/3", "0 2/3 2/3"}, {"a = b - c > a", "1 2/3 5/3", "-1 2/3 5/3"}, {"a*7 = b > a", "1 0", "0 0"}, {"a + b + c + d + e + f + g + h = 36 > h", "1 2 3 4 5 6 7 0", "1 2 3 4 5 6 7 8"},
		// A chain in the order of its numbers, and against it.
		{"b = a + 1 > b, c = 2*b > c, d = c - 1 > d", "1 0 0 0", "1 2 4 3"}, {"c + d = 0 > d, c = 2*b > c, b = a + 1 > b", "1 0 0 0", "1 2 4 -4"}, {"a = 3 > a, b = a > b, c = b > c", "0 0 0", "3 3 3"}, {"c = b > c, b = a > b, a = 3 > a", "0 0 0", "3 3 3"}, {"b = a/2 > b, c = b/2 > c, d = c/2 > d, e = d/2 > e", "1 1 1 1 1", "1 1/2 1/4 1/8 1/16"}, {"c = 3*d > c, b = 2*c > b, a = 1 - b > a", "0 0 0 1/2", "-2 3 3/2 1/2"}, {"a = 1 - b > a, b = 2*c > b, c = 3*d > c, d = 1/2 > d", "0 0 0 0", "-2 3 3/2 1/2"}, {"2*b = c > b, d = 2*c > d, c = a > c", "3 0 0 0", "3 3/2 3 6"},
		// What was there ahead does not count, where it is told.
		{"b = a > b, a = 5 > a", "1 2", "5 5"}, {"c = a + b > c, a = 2 > a, b = 3 > b", "9 9 9", "2 3 5"}, {"b = a > b, c = b > c, a = 0 > a", "1 2 3", "0 0 0"},
		// Trees.
		{"a = b + c > a, b = 2 > b, c = 3 > c", "0 0 0", "5 2 3"}, {"a = h > a, b = 2*h > b, c = 3*h > c, h = 1/6 > h", "0 0 0 4 5 6 7 8", "1/6 1/3 1/2 4 5 6 7 1/6"}, {"a = b - c > a, b = 2*d > b, c = f/2 + e > c", "9 0 0 1 1/2 3", "0 2 2 1 1/2 3"}, {"a + b + c + d = 10 > d, a = 1 > a, c = e > c, e = 3 > e", "0 2 0 0 0", "1 2 3 4 3"},
		// Several apart.
		{"b = a > b, d = c > d, a = 1 > a", "0 0 7 0", "1 1 7 7"}, {"d = 2*c > d, a = 1 > a, f = e - 1 > e", "0 1 2 3 4 5", "1 1 2 4 6 5"},
		// Those that tell none, and do not hold, make no difference.
		{"a = 5, b = a > b, b = 9, 1 = 2", "3 0", "3 3"}, {"a = b, a = 5 > a, b = 6 > b", "1 2", "5 6"}, {"a + b = 7, a = 5 > a", "1 1", "5 1"},
	} {
		l, outs := equations(x.equations)
		expectRun(t, l, outs, numbers(x.val), numbers(x.want))
		expectRun(t, l, outs, allRewritten(numbers(x.val)), numbers(x.want))
		expectSaid(t, l, outs, numbers(x.val))
		// What holds already stays.
		expectRun(t, l, outs, numbers(x.want), numbers(x.want))
		if outs := nobody(len(l)); len(l) > 0 {
			expectRun(t, l, outs, numbers(x.val), numbers(x.val))
		}
	}
}

// P14.2: each value is Normed, also where nobody tells, and also where it is
// told of others.
func TestValuesThatAreNotNormal(t *testing.T) {
	for _, a := range roughNumbers() {
		norm := normal(value(a))
		expectRun(t, nil, nil, []api.Rat{a}, []api.Rat{norm})
		expectRun(t, nil, nil, []api.Rat{a, a, whole(1), a}, []api.Rat{norm, norm, whole(1), norm})
		l, outs := equations("c = a + b > c, d = 3*e > e")
		val := []api.Rat{a, whole(2), a, a, a, a}
		must := valuesOf(l, outs, val)
		want := []api.Rat{norm, whole(2), normal(must[2]), norm, normal(must[4]), norm}
		expectRun(t, l, outs, val, want)
		expectSaid(t, l, outs, val)
		expectRun(t, l, nobody(2), val, []api.Rat{norm, whole(2), norm, norm, norm, norm})
		l, outs = equations("a = 1/2 > a")
		expectRun(t, l, outs, []api.Rat{a, a}, []api.Rat{small(1, 2), norm})
	}
}

// largeNumbers are numbers that are Large, and next to each one that is not.
func largeNumbers() [][2]*big.Rat {
	var list [][2]*big.Rat
	for _, x := range [][2]*big.Rat{{power(512, 0), power(512, -1)}, {power(512, 1), power(511, 1)}, {power(544, 3), power(480, 3)}, {power(20000, -1), power(300, -1)}} {
		list = append(list, x, [2]*big.Rat{minus(x[0]), minus(x[1])}, [2]*big.Rat{inverse(x[0]), inverse(x[1])}, [2]*big.Rat{minus(inverse(x[0])), minus(inverse(x[1]))})
	}
	return append(list, [2]*big.Rat{new(big.Rat).Quo(power(512, 0), big.NewRat(3, 1)), new(big.Rat).Quo(power(512, -2), power(512, -1))}, [2]*big.Rat{new(big.Rat).Quo(big.NewRat(5, 1), power(512, 0)), new(big.Rat).Quo(power(511, 0), power(512, -1))})
}

// P14.2: a value that is Large when it is made.
func TestLargeValues(t *testing.T) {
	for _, x := range largeNumbers() {
		large, next := normal(x[0]), normal(x[1])
		a := func(k api.Rat) []api.Con {
			return []api.Con{of(0), con(1, normal(minus(value(k))), row(0, 1)...)}
		}
		expectError(t, a(large), []int{-1, 0}, numbers("1 2"), 1, api.ErrLarge)
		expectRun(t, a(next), []int{-1, 0}, numbers("1 2"), []api.Rat{next, whole(2)})
		expectRun(t, a(large), []int{-1, -1}, numbers("1 2"), numbers("1 2"))
		// By a C: -x of a is x of it.
		byC := func(c *big.Rat) []api.Con {
			return []api.Con{con(2, whole(1), term(0, normal(inverse(minus(c)))))}
		}
		expectError(t, byC(x[0]), []int{0}, numbers("1 2"), 0, api.ErrLarge)
		expectRun(t, byC(x[1]), []int{0}, numbers("1 2"), []api.Rat{next, whole(2)})
		// By another value, which is Large itself, or is not.
		l, outs := equations("a = 1 > a, d = b > d")
		expectError(t, l, outs, []api.Rat{whole(1), large, whole(2), whole(3)}, 1, api.ErrLarge)
		expectRun(t, l, outs, []api.Rat{whole(1), next, whole(2), whole(3)}, []api.Rat{whole(1), next, whole(2), next})
		// By two that are not.
		l, outs = equations("a = b + c > a")
		half := normal(new(big.Rat).Quo(x[0], big.NewRat(2, 1)))
		rest := normal(new(big.Rat).Sub(x[0], value(half)))
		expectError(t, l, outs, []api.Rat{whole(1), half, rest}, 0, api.ErrLarge)
		expectSaid(t, l, outs, []api.Rat{whole(1), half, rest})
		// What is Large in between, and comes to little, is not Large.
		l, outs = equations("a = b - c > a, d = a > d")
		more := normal(new(big.Rat).Add(x[0], big.NewRat(1, 1)))
		expectRun(t, l, outs, []api.Rat{whole(9), more, large, whole(9)}, []api.Rat{whole(1), more, large, whole(1)})
		huge := []api.Con{con(0, normal(minus(x[0])), term(0, large))}
		expectRun(t, huge, []int{0}, numbers("9"), numbers("1"))
	}
	// Of 16 limbs, and of 17.
	l, outs := equations("a = 2*b > a")
	expectRun(t, l, outs, []api.Rat{whole(1), normal(power(511, -1))}, []api.Rat{normal(power(512, -2)), normal(power(511, -1))})
	expectError(t, l, outs, []api.Rat{whole(1), normal(power(511, 0))}, 0, api.ErrLarge)
	l, outs = equations("a = b/2 > a")
	expectRun(t, l, outs, []api.Rat{whole(1), normal(inverse(power(510, 0)))}, []api.Rat{normal(inverse(power(511, 0))), normal(inverse(power(510, 0)))})
	expectError(t, l, outs, []api.Rat{whole(1), normal(inverse(power(511, 0)))}, 0, api.ErrLarge)
}

// P14.2: of several that are Large the first along Order is told.
func TestFirstLargeValue(t *testing.T) {
	great := normal(power(511, 5))
	for _, x := range []struct {
		equations string
		number    int
	}{
		{"b = 2*a > b", 0}, {"b = a > b, c = 2*a > c", 1}, {"b = 2*a > b, c = 2*a > c", 0}, {"b = a > b, c = 2*a > c, d = 2*a > d", 1}, {"b = 2*a > b, c = b > c", 0}, {"c = b > c, b = 2*a > b", 1}, {"d = c > d, c = b > c, b = 2*a > b", 2}, {"d = c > d, c = 2*b > c, b = a > b", 1}, {"d = 2*c > d, c = b > c, b = a > b", 0},
		// A lesser one waits: it comes behind; one behind waits for nothing.
		{"c = 2*b > c, d = 2*a > d, b = a > b", 1}, {"c = 2*b > c, d = a > d, b = a > b, e = 2*a > e", 0}, {"c = 2*b > c, b = a > b, d = 2*a > d", 0}, {"c = 2*b > c, d = 2*e > d, b = a > b, e = a > e", 0}, {"d = 2*e > d, c = 2*b > c, b = a > b, e = a > e", 1}, {"e = d/2 > e, d = c > d, b = 2*a > b, c = 4*a > c", 2}, {"e = d/2 > e, d = c > d, c = 4*a > c, b = 2*a > b", 2}, {"f = 1 > f, e = d > e, d = 4*a > d, b = a > b", 2},
		// Those that tell none do not count.
		{"b = 4*a, c = 1 > c, e = 8*a, d = 8*a > d", 3}, {"b = 2*a, 1 = 2, c = 3*a > c", 2},
	} {
		l, outs := equations(x.equations)
		val := slices.Repeat([]api.Rat{whole(3)}, 6)
		val[0] = great
		expectError(t, l, outs, val, x.number, api.ErrLarge)
		if expectSaid(t, l, outs, val).large == 0 {
			t.Error("the tests say that nothing is Large:", x.equations)
		}
		val[0] = whole(2)
		if expectSaid(t, l, outs, val).whole == 0 {
			t.Error("the tests say that something is Large:", x.equations)
		}
	}
}

// P14.2: values that are Large may be handed in, where nobody uses them, or
// they are told anew.
func TestLargeValuesThatAreHandedIn(t *testing.T) {
	for _, x := range largeNumbers() {
		large := normal(x[0])
		for way := range 9 {
			as := rewritten(large, way)
			expectRun(t, nil, nil, []api.Rat{as}, []api.Rat{large})
			expectRun(t, nil, nil, []api.Rat{whole(1), as, as}, []api.Rat{whole(1), large, large})
			l, outs := equations("a = c > a, d = 7 > d, b = 2")
			expectRun(t, l, outs, []api.Rat{as, as, whole(3), as, as}, []api.Rat{whole(3), large, whole(3), whole(7), large})
			l, outs = equations("a = d > a, d = 7 > d")
			expectRun(t, l, outs, []api.Rat{as, as, as, as}, []api.Rat{whole(7), large, large, whole(7)})
			l, outs = equations("a = d > a, d = b > d")
			expectError(t, l, outs, []api.Rat{whole(1), as, whole(1), whole(1)}, 1, api.ErrLarge)
			expectError(t, l, nobody(3), []api.Rat{as}, -1, api.ErrArg)
		}
	}
}

// P14.2: what errs answers no value at all, and an error for each argument by
// itself.
func TestErrorsOneByOne(t *testing.T) {
	l, outs := equations("a = 1 > a, b = 2 > b, c = d > c")
	val := []api.Rat{{}, {}, {}, normal(power(600, 0))}
	expectError(t, l, outs, val, 2, api.ErrLarge)
	expectError(t, l, outs[:2], val, -1, api.ErrArg)
	expectError(t, l[:2], outs, val, -1, api.ErrArg)
	expectError(t, l, outs, val[:3], -1, api.ErrArg)
	expectError(t, l, told("aac"), val, -1, api.ErrArg)
	expectError(t, append(slices.Clone(l), l[2]), told("ab--"), val, -1, api.ErrArg)
	expectError(t, append(slices.Clone(l), l[2]), told("abcd"), val, -1, api.ErrArg)
	expectError(t, l, outs, slices.Repeat(val, 17), -1, api.ErrArg)
	expectRun(t, l[:2], outs[:2], val, append(numbers("1 2 0"), val[3]))
	for _, list := range [][]api.Rat{nil, {}, val[:0]} {
		got, at, err := run.Run(nil, nil, list)
		if len(got) > 0 || at != -1 || err != api.ErrArg {
			t.Error("of no values Run is", got, at, err)
		}
	}
}

// P14.1, P14.2, P14.3: many constraints, choices and values, held against what
// the tests say of them.
func TestRandomRuns(t *testing.T) {
	m := &maker{Rand: rand.New(rand.NewSource(143))}
	var k kinds
	for i := range 6000 {
		m.n, m.terms = 1+m.Intn(12), 1+m.Intn(5)
		l := m.forest(m.Intn(16))
		if i%3 == 0 {
			l = m.great(l)
		}
		outs, val := m.outs(l, 5+i%6), m.values()
		k.add(expectSaid(t, l, outs, val))
		if i%4 == 0 && len(l) > 0 {
			broken := slices.Clone(outs)
			broken[m.Intn(len(l))] = m.Intn(m.n+2) - 1
			k.add(expectSaid(t, l, broken, val))
			k.add(expectSaid(t, slices.Insert(l, m.Intn(len(l)), m.con(m.Perm(m.n)[:min(m.n, 2)])), append(outs, -1), val))
		}
	}
	if k.none < 1000 || k.whole < 3000 || k.large < 500 || k.late < 200 || k.risen < 1500 || k.kept < 300 {
		t.Error("too few of a kind:", k)
	}
}

// P14.1, P14.2, P14.3: many variables and constraints.
func TestManyVariables(t *testing.T) {
	m := &maker{Rand: rand.New(rand.NewSource(144))}
	var k kinds
	for i := range 60 {
		m.n, m.terms = []int{20, 40, 64}[i%3], 2+i%4
		l := m.forest(m.n + 3*i)
		val := slices.Repeat(numbers("1 -2 1/3 0"), 16)[:m.n]
		k.add(expectSaid(t, l, m.outs(l, 10), val))
		k.add(expectSaid(t, l, m.outs(l, 4), m.values()))
	}
	if k.none > 0 || k.whole < 40 || k.large < 5 || k.risen < 50 {
		t.Error("too few of a kind:", k)
	}
}

// P14.2: the number of the constraint is told among all of them.
func TestNumbersAmongMany(t *testing.T) {
	for at := range 256 {
		l, outs := slices.Repeat([]api.Con{of(0), of(1, 2), of(2, 3)}, 86)[:256], nobody(256)
		l[at], outs[at] = con(4, normal(power(600, 0)), row(0, 1)...), 0
		other := (at + 100) % 256
		l[other], outs[other] = con(3, whole(-1), row(1, 1)...), 1
		expectError(t, l, outs, numbers("0 0 0 0"), at, api.ErrLarge)
		l[at] = con(4, whole(7), row(0, 1)...)
		expectRun(t, l, outs, numbers("0 0 0 0"), numbers("-7 1 0 0"))
		expectOrder(t, l, outs, 4, []int{min(at, other), max(at, other)})
	}
}

// W1: what is great comes to an end.
func TestGreatNumbers(t *testing.T) {
	limbs := slices.Repeat([]uint32{most}, 3000)
	huge := ratOf(true, limbs, []uint32{1})
	l, outs := equations("a = b > a, d = c > d")
	expectError(t, l, outs, []api.Rat{{}, huge, {}, {}}, 0, api.ErrLarge)
	expectError(t, l, outs, []api.Rat{{}, {}, huge, {}}, 1, api.ErrLarge)
	expectRun(t, l, outs, []api.Rat{huge, whole(1), whole(2), ratOf(true, limbs, limbs)}, numbers("1 1 2 2"))
	l[0].Terms[0].C, l[0].Terms[1].C = huge, huge
	expectRun(t, l, outs, numbers("1 2 3 4"), numbers("-2 2 3 3"))
	l[0].K = ratOf(false, limbs, limbs)
	expectError(t, l, outs, numbers("1 2 3 4"), -1, api.ErrArg)
	great := of(0, upTo(1<<16)...)
	expectNone(t, []api.Con{great}, []int{0}, 64)
	expectNone(t, []api.Con{great}, []int{0}, 1<<16)
	if _, _, err := run.Run(l, outs, make([]api.Rat, 1<<20)); err != api.ErrArg || !strings.Contains(err.Error(), "1") {
		t.Error("of many values Run errs otherwise:", err)
	}
}

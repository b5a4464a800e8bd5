package gauss_test

import (
	"math/big"
	"math/rand"
	"slices"
	"testing"

	"pantograph/api"
	"pantograph/gauss"
)

// P10.1: whether sums are consistent, and their rank.
func TestConsistentAndRank(t *testing.T) {
	for _, x := range []struct {
		sums       string
		consistent bool
		rank       int
	}{
		{"", true, 0}, {"0", true, 0}, {"0, 0", true, 0}, {"1", false, 0}, {"-1/2", false, 0}, {"0, 1", false, 0}, {"1, 0", false, 0}, {"1, -1", false, 0},
		{"a", true, 1}, {"a - 1", true, 1}, {"a, a", true, 1}, {"a, -a", true, 1}, {"a - 1, a - 1", true, 1}, {"a - 1, 1 - a", true, 1}, {"a - 1, 3*a - 3", true, 1}, {"a/2 - 1/2, a/3 - 1/3", true, 1},
		{"a - 1, a - 2", false, 1}, {"a - 1, a + 1", false, 1}, {"a - 1, 2*a - 1", false, 1}, {"a, 2*a - 1", false, 1}, {"a - 1, 2*a", false, 1}, {"a, a - 1, a - 2", false, 1}, {"a, 1", false, 1}, {"1, a", false, 1}, {"a, 0", true, 1},
		{"a, b", true, 2}, {"a - 1, b - 2", true, 2}, {"b, c, d", true, 3}, {"a + b", true, 1}, {"a + b, a + b - 1", false, 1}, {"a + b, 2*a + 2*b", true, 1}, {"a + b, 2*a + 2*b - 1", false, 1}, {"a + b, a + 2*b - 1", true, 2},
		{"a + b - 3, a - b - 1", true, 2}, {"a + b - 3, a - b - 1, a - 2", true, 2}, {"a + b - 3, a - b - 1, b - 1", true, 2}, {"a + b - 3, a - b - 1, a - 1", false, 2}, {"a + b - 3, a - b - 1, a + 2*b - 4", true, 2}, {"a + b - 3, a - b - 1, a + 2*b - 5", false, 2},
		// Three contradict one another, but no two.
		{"a - b, b - c", true, 2}, {"b - c, a - c - 1", true, 2}, {"a - b, a - c - 1", true, 2}, {"a - b, b - c, a - c - 1", false, 2}, {"a - b, b - c, a - c", true, 2}, {"a - b, b - c, c - a", true, 2}, {"a - b - 1, b - c - 1, c - a - 1", false, 2}, {"a + b, b + c, a - c - 1/9", false, 2},
		{"a + b - 1, a - b - 1, b", true, 2}, {"a + b - 1, a - b - 1, b - 1", false, 2}, {"a + b, b + c, a + c", true, 3}, {"a + b, b + c, a + c, a + b + c - 1", false, 3}, {"a + b - 2, b + c - 2, a + c - 2, a + b + c - 3", true, 3},
		// Four contradict one another, but no three.
		{"a - b, b - c, c - d", true, 3}, {"a - b, b - c, a - d - 1", true, 3}, {"a - b, c - d, a - d - 1", true, 3}, {"b - c, c - d, a - d - 1", true, 3}, {"a - b, b - c, c - d, a - d - 1", false, 3}, {"a - b, b - c, c - d, a - d", true, 3},
		// More sums than variables.
		{"a - 1, b - 2, a + b - 3, a - b + 1, 2*a - b", true, 2}, {"a - 1, b - 2, a + b - 3, a - b + 1, 2*a - b - 1", false, 2}, {"a, a, a, a, a", true, 1}, {"a, 2*a, 3*a, 4*a, b, 2*b", true, 2},
		// Terms that depend on others, beside a K that does not agree.
		{"a + b + c, a - b, 2*a + c - 1", false, 2}, {"a + b + c, a - b, 2*a + c", true, 2}, {"a + b + c - 1, a + b - 1, c - 1", false, 2}, {"a + b + c - 1, a + b - 1, c", true, 2}, {"a + b + c - 1, b + c - 1, a + c - 1, a + b - 1", false, 3},
		{"a + b + c + d, a + b, c + d", true, 2}, {"a + b + c + d, a + b, c + d, a + c, b + d", true, 3}, {"a + b + c + d, a + b, c + d, a + c, b + d, a", true, 4}, {"b + d, a + d, a - b", true, 2}, {"b + d, a + d, a - b - 1", false, 2},
		{"e - f, f - g, g - h, h - e", true, 3}, {"e - f, f - g, g - h, h - e - 1", false, 3}, {"a - h, h - 1", true, 2}, {"a - h, h - 1, a - 2", false, 2}, {"a - h, h - 1, a - 1", true, 2},
		{"a/3 + b/7 - 1, a/2 - b/5, 10*a/3 + 3*b/5 - 7", true, 2}, {"a/3 + b/7 - 1, a/2 - b/5, 10*a/3 + 2*b/5 - 7", false, 2}, {"a/3 + b/7 - 1, 7*a + 3*b - 21", true, 1}, {"a/3 + b/7 - 1, 7*a + 3*b - 20", false, 1}, {"a/3 + b/7 - 1, 7*a + 3.0001*b - 21", true, 2},
	} {
		l := sums(x.sums)
		for _, n := range []int{8, 9, 64, 65, highest} {
			expectConsistent(t, l, n, x.consistent)
			expectRank(t, l, n, x.rank)
		}
	}
	for _, l := range [][]api.Con{nil, {}, make([]api.Con, 0, 5)} {
		for _, n := range []int{lowest, -1, 0, 1, 64, 65, highest} {
			expectConsistent(t, l, n, true)
			expectRank(t, l, n, 0)
		}
	}
}

// P10.1: a sum counts of its Strength 0 to 4, and its Strength makes no
// difference.
func TestStrengthsMakeNoDifference(t *testing.T) {
	for first := range 5 {
		for second := range 5 {
			l := []api.Con{con(first, whole(-1), row(0, 1)...), con(second, whole(-2), row(0, 1)...)}
			expectConsistent(t, l, 1, false)
			expectRank(t, l, 1, 1)
			l[1].K = whole(-1)
			expectConsistent(t, l, 1, true)
			expectImplies(t, l[:1], l[1], 1, true)
			expectFixed(t, l, 0, 1, whole(1))
			l[1] = con(second, whole(5), row(0, 1, 1, -1)...)
			expectRank(t, l, 2, 2)
			expectFixed(t, l, 1, 2, whole(6))
		}
		expectConsistent(t, []api.Con{con(first, whole(1))}, 3, false)
	}
}

// numbersOfVariables are some n, and how many variables they are.
func numbersOfVariables() map[int]int {
	return map[int]int{lowest: 0, -65: 0, -64: 0, -2: 0, -1: 0, 0: 0, 1: 1, 2: 2, 3: 3, 31: 31, 62: 62, 63: 63, 64: 64, 65: 64, 66: 64, 128: 64, 1 << 16: 64, 1 << 32: 64, 1<<32 + 1: 64, highest: 64}
}

// P10.1, P10.2: n is held within 0 and 64; a sum counts, if all its variables
// are below it.
func TestNumbersOfVariables(t *testing.T) {
	for n, vars := range numbersOfVariables() {
		var free, all []api.Con
		for v := range 70 {
			free, all = append(free, con(0, whole(0), row(v, 1)...)), append(all, con(4, whole(-v), row(v, 1)...))
		}
		expectConsistent(t, all, n, true)
		expectRank(t, all, n, vars)
		expectRank(t, slices.Concat(all, free), n, vars)
		for v := -2; v < 70; v++ {
			counts := 0 <= v && v < vars
			one := con(0, whole(-7), row(v, 1)...)
			expectConsistent(t, []api.Con{one, con(0, whole(0), row(v, 1)...)}, n, !counts)
			expectConsistent(t, []api.Con{one}, n, true)
			expectImplies(t, []api.Con{one}, one, n, counts)
			expectImplies(t, nil, one, n, false)
			if counts {
				expectRank(t, []api.Con{one}, n, 1)
				expectFixed(t, []api.Con{one}, v, n, whole(7))
				expectFixed(t, all, v, n, whole(v))
			} else {
				expectRank(t, []api.Con{one}, n, 0)
				expectFree(t, []api.Con{one}, v, n)
				expectFree(t, all, v, n)
			}
			expectFree(t, nil, v, n)
			// A variable just within stands in it, too, and one that may not.
			if 0 < v && v < 69 {
				two := con(0, whole(-7), row(v-1, 1, v, 1)...)
				expectImplies(t, []api.Con{two}, two, n, counts)
				expectConsistent(t, []api.Con{two, con(0, whole(0), row(v-1, 1, v, 1)...)}, n, !counts)
			}
		}
		for _, v := range []int{lowest, -1 << 32, 1 << 32, highest, n, vars} {
			expectFree(t, all, v, n)
			expectImplies(t, all, con(0, whole(-v), row(v, 1)...), n, false)
		}
	}
}

// P10.1, P10.2: a sum without Terms counts, of whatever n.
func TestSumsWithoutTerms(t *testing.T) {
	for n := range numbersOfVariables() {
		for _, k := range []api.Rat{whole(1), whole(-1), small(1, 2), small(-1, most), ratOf(false, []uint32{0, 0, 1}, []uint32{1})} {
			l := []api.Con{con(2, k)}
			expectConsistent(t, l, n, false)
			expectRank(t, l, n, 0)
			expectImplies(t, l, con(0, whole(0)), n, true)
			expectImplies(t, l, con(0, whole(-1), row(0, 1)...), n, true)
			expectImplies(t, l, con(5, whole(-1)), n, true)
			expectImplies(t, nil, l[0], n, false)
			expectFree(t, l, 0, n)
			expectFree(t, append(sums("a - 1"), l...), 0, n)
		}
		nothing := []api.Con{con(1, whole(0)), con(3, whole(0))}
		expectConsistent(t, nothing, n, true)
		expectRank(t, nothing, n, 0)
		expectImplies(t, nothing, con(4, whole(0)), n, true)
		expectImplies(t, nil, con(4, whole(0)), n, true)
		expectImplies(t, nothing, con(0, whole(1)), n, false)
		expectFree(t, nothing, 0, n)
	}
}

// P10.1, P10.2: what may not be does not count, alone and among others,
// wherever it stands.
func TestSumsThatMayNotBe(t *testing.T) {
	around := [][]api.Con{nil, sums("a - 1"), sums("a + b - 3, a - b - 1"), sums("a - 1, a - 2"), sums("b - c, c - 1"), sums("1"), sums("0")}
	asked := append(goodSums(), badSums()...)
	for _, bad := range badSums() {
		for _, l := range around {
			if mayBe(bad, 64) {
				t.Fatal("the test's sum may be:", bad)
			}
			for at := range len(l) + 1 {
				with := slices.Insert(slices.Clone(l), at, bad)
				for _, n := range []int{-1, 0, 1, 4, 64, 65, highest} {
					expectConsistent(t, with, n, gauss.Consistent(l, n))
					expectRank(t, with, n, gauss.Rank(l, n))
					expectImplies(t, with, asked[(at+n)&15], n, gauss.Implies(l, asked[(at+n)&15], n))
					for v := -1; v < 4; v++ {
						x, ok := gauss.Fixed(l, v, n)
						if y, is := gauss.Fixed(with, v, n); is != ok || !alike(x, y) {
							t.Error("Fixed of variable", v, "is", y, is, "beside", bad, l)
						}
					}
				}
			}
		}
		expectConsistent(t, []api.Con{bad, bad}, 64, true)
		expectRank(t, []api.Con{bad, bad}, 64, 0)
	}
	for _, l := range around {
		with := slices.Concat(badSums(), l, badSums())
		expectConsistent(t, with, 64, gauss.Consistent(l, 64))
		expectRank(t, with, 64, gauss.Rank(l, 64))
		for _, c := range asked {
			expectImplies(t, with, c, 64, gauss.Implies(l, c, 64))
		}
	}
}

// P10.1, P10.2: rows are exact, where numbers are long and fractions.
func TestLongNumbers(t *testing.T) {
	r := rand.New(rand.NewSource(3))
	for i := range 60 {
		n := 1 + i%4
		size := func() int { return r.Intn(9 - n) }
		// A solution is chosen first; each sum has the K that it asks for.
		var at []api.Rat
		for range n {
			at = append(at, long(r, size(), size()))
		}
		var l []api.Con
		for range n {
			c := con(r.Intn(5), whole(0))
			for v := range n {
				c.Terms = append(c.Terms, term(v, long(r, size(), size())))
			}
			c.K = normal(new(big.Rat).Neg(saidAt(c, at)))
			l = append(l, c)
		}
		last := l[n-1]
		least := new(big.Rat).SetFrac(big.NewInt(1), new(big.Int).Lsh(big.NewInt(1), 3000))
		wrong := con(0, normal(new(big.Rat).Add(value(last.K), least)), last.Terms...)
		expectRank(t, l, n, n)
		expectConsistent(t, append(slices.Clone(l), last, times(last, value(at[0]))), n, true)
		expectConsistent(t, append(slices.Clone(l), wrong), n, false)
		expectImplies(t, l, times(last, value(long(r, 9, 9))), n, true)
		expectImplies(t, l, wrong, n, false)
		expectImplies(t, l[:n-1], last, n, false)
		for v, x := range at {
			expectFixed(t, l, v, n, x)
			expectImplies(t, l, con(0, normal(new(big.Rat).Neg(value(x))), row(v, 1)...), n, true)
			expectImplies(t, l, con(0, normal(new(big.Rat).Sub(least, value(x))), row(v, 1)...), n, false)
			if n > 1 {
				expectFree(t, l[1:], v, n)
			}
		}
	}
}

// P10.1, P10.2: no number is taken for 0 that is none, nor two that are
// nearly one for one.
func TestNumbersThatAreNearlyOne(t *testing.T) {
	for _, p := range []int{3, 5, 997, 65537, 998244353, 1e9 + 7, 1e9 + 9, 1<<31 - 1, 1 << 31, 1<<32 - 5, most, 1 << 32, 1<<32 + 15, 1<<53 + 1, 1<<61 - 1, 1 << 62, highest} {
		x := whole(p)
		alone := []api.Con{con(0, whole(-1), term(0, x))}
		expectRank(t, alone, 1, 1)
		expectFixed(t, alone, 0, 1, normal(big.NewRat(1, int64(p))))
		expectConsistent(t, []api.Con{con(0, x)}, 1, false)
		expectConsistent(t, []api.Con{con(0, x, row(0, 1)...), con(0, whole(0), row(0, 1)...)}, 1, false)
		expectConsistent(t, []api.Con{con(0, x, row(0, 1)...), con(0, whole(p-1), row(0, 1)...)}, 1, false)
		expectImplies(t, []api.Con{con(0, x, row(0, 1)...)}, con(0, whole(p-1), row(0, 1)...), 1, false)
		two := []api.Con{con(0, whole(0), term(0, x), term(1, whole(p-1))), con(0, whole(0), term(0, whole(p-1)), term(1, whole(p-2)))}
		expectRank(t, two, 2, 2)
		expectFixed(t, two, 1, 2, whole(0))
	}
}

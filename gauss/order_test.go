package gauss_test

import (
	"math/big"
	"math/rand"
	"slices"
	"testing"

	"pantograph/api"
	"pantograph/gauss"
)

// told is all that is told of sums.
type told struct {
	consistent bool
	rank       int
	implied    []bool
	fixed      []string
}

func tellAll(l, asked []api.Con, n int) told {
	x := told{consistent: gauss.Consistent(l, n), rank: gauss.Rank(l, n)}
	for _, c := range asked {
		x.implied = append(x.implied, gauss.Implies(l, c, n))
	}
	for v := -1; v <= min(n, 9); v++ {
		x.fixed = append(x.fixed, inWords(gauss.Fixed(l, v, n)))
	}
	return x
}

func (x told) equals(y told) bool {
	return x.consistent == y.consistent && x.rank == y.rank && slices.Equal(x.implied, y.implied) && slices.Equal(x.fixed, y.fixed)
}

// P10.3: sums by hand, in all their orders.
func TestAllOrders(t *testing.T) {
	asked := append(sums("0, 1, a - 1, b + c, a + b + c - 1, d"), badSums()[0])
	for _, text := range []string{
		"a", "a, 1", "a - 1, a - 2, b", "a + b - 3, a - b - 1, c - a", "a - b, b - c, c - d, a - d", "a - b, b - c, c - d, a - d - 1", "a + b, b + c, a + c, a + b + c - 1", "a + b + c + d - 1, a + b, c + d, a",
		"a + b + c + d - 1, a + b, c + d - 1, a + c, b + d - 1", "a/2 + b/3 + c/5 - 1, a/3 + b/5 + c/7 - 1, a/5 + b/7 + c/11 - 1, b - c, d", "a - 1, 2*a - 2, 3*a - 3, b + a, 0", "c - a, b - d, d - c, a - 1/3, b - 1/3", "d, c + d, b + c + d, a + b + c + d, a + 1",
	} {
		want := tellAll(sums(text), asked, 4)
		l := append(sums(text), badSums()[len(text)%40])
		permuted(l, func(list []api.Con) {
			if got := tellAll(list, asked, 4); !got.equals(want) {
				t.Fatal("of", list, "is told", got, "not", want)
			}
		})
		expectSaid(t, l, asked, 4)
	}
}

// maker makes sums at random.
type maker struct {
	*rand.Rand
	n     int // of so many variables
	terms int // of at most so many terms
	sizes int // numbers of at most so great parts
}

func (m *maker) number() *big.Rat {
	return big.NewRat(int64(m.Intn(2*m.sizes+1)-m.sizes), int64(1+m.Intn(m.sizes)))
}

func (m *maker) number0() *big.Rat {
	for {
		if x := m.number(); x.Sign() != 0 {
			return x
		}
	}
}

func (m *maker) con() api.Con {
	c := con(m.Intn(5), normal(m.number()))
	vars := m.Perm(m.n)[:min(m.n, m.Intn(m.terms+1))]
	slices.Sort(vars)
	for _, v := range vars {
		c.Terms = append(c.Terms, term(v, normal(m.number0())))
	}
	return c
}

// together are some sums, each some times; they have no terms that cancel.
func (m *maker) together(list []api.Con, n int) api.Con {
	all := lineOf(con(0, whole(0)), n)
	for range 1 + m.Intn(3) {
		by := m.number0()
		for i, x := range lineOf(list[m.Intn(len(list))], n) {
			all[i].Add(all[i], x.Mul(x, by))
		}
	}
	c := con(m.Intn(5), normal(all[n]))
	for v, x := range all[:n] {
		if x.Sign() != 0 {
			c.Terms = append(c.Terms, term(v, normal(x)))
		}
	}
	return c
}

// sums are some at random, some that others make, and some that do not agree
// with them.
func (m *maker) sums(count int) []api.Con {
	var list []api.Con
	for len(list) < count {
		c := m.con()
		if len(list) > 0 && m.Intn(5) < 2 {
			c = m.together(list, m.n)
		}
		if m.Intn(8) == 0 {
			c.K = normal(m.number())
		}
		list = append(list, c)
	}
	return list
}

// P10.1, P10.2, P10.3: many sums, held against what the tests say of them, in
// several orders.
func TestRandomSums(t *testing.T) {
	m := &maker{Rand: rand.New(rand.NewSource(101))}
	consistent, broken, implied, fixed, free := 0, 0, 0, 0, 0
	ranks := map[int]int{}
	for i := range 500 {
		m.n, m.terms, m.sizes = 6-min(m.Intn(7), m.Intn(7)), 1+m.Intn(6), []int{1, 2, 9, 1000}[i%4]
		l := m.sums(m.Intn(13))
		if i%2 == 0 && m.n > 0 {
			l = m.agreeing(l)
		}
		asked := []api.Con{m.con(), m.con(), con(0, whole(0)), badSums()[m.Intn(20)]}
		if len(l) > 0 {
			asked = append(asked, l[m.Intn(len(l))], m.together(l, m.n), m.together(l, m.n))
			other := m.together(l, m.n)
			other.K = normal(m.number())
			asked = append(asked, other)
		}
		if i%3 == 0 {
			l = slices.Insert(slices.Clone(l), m.Intn(len(l)+1), badSums()[m.Intn(60)])
		}
		for _, n := range []int{m.n, m.n + m.Intn(3), m.Intn(m.n + 1)} {
			count := expectSaid(t, l, asked, n)
			fixed += count
			free += max(n, 0) - count
			want := tellAll(l, asked, n)
			for range 2 {
				if list := shuffled(m.Rand, l); !tellAll(list, asked, n).equals(want) {
					t.Fatal("of", n, "variables another order makes a difference:", l, list)
				}
			}
			ranks[want.rank]++
			if want.consistent {
				consistent++
			} else {
				broken++
			}
			for _, is := range want.implied {
				if is && want.consistent {
					implied++
				}
			}
		}
	}
	if consistent < 600 || broken < 300 || implied < 1500 || fixed < 500 || free < 2000 || ranks[0] < 100 || ranks[3] < 100 || ranks[6] < 10 {
		t.Error("too few of a kind:", consistent, broken, implied, fixed, free, ranks)
	}
}

// P10.1, P10.2, P10.3: many variables.
func TestManyVariables(t *testing.T) {
	m := &maker{Rand: rand.New(rand.NewSource(102))}
	for i := range 12 {
		m.n, m.terms, m.sizes = []int{20, 40, 64}[i%3], 2+i%4, 5
		l := m.sums(m.n * (1 + i%2))
		if i%4 < 2 {
			l = m.agreeing(l)
		}
		asked := []api.Con{m.con(), l[m.Intn(len(l))], m.together(l, m.n)}
		n := m.n + i%2*(64-m.n)
		expectSaid(t, l, asked, n)
		if !tellAll(shuffled(m.Rand, l), asked, n).equals(tellAll(l, asked, n)) {
			t.Fatal("another order makes a difference:", l)
		}
	}
}

// agreeing are sums that all hold at some values.
func (m *maker) agreeing(l []api.Con) []api.Con {
	var at []api.Rat
	for range m.n {
		at = append(at, normal(m.number()))
	}
	list := slices.Clone(l)
	for i, c := range list {
		c.K = whole(0)
		list[i].K = normal(new(big.Rat).Neg(saidAt(c, at)))
	}
	return list
}

// P10.1, P10.2: where all variables are fixed, all hold at their numbers, and
// another sum is implied, or consistent with them, just if it holds there.
func TestHoldsWhereAllIsFixed(t *testing.T) {
	m := &maker{Rand: rand.New(rand.NewSource(103)), n: 4, terms: 4, sizes: 7}
	count, implied := 0, 0
	for range 600 {
		l := m.agreeing(m.sums(12))
		if gauss.Rank(l, 4) < 4 {
			continue
		}
		count++
		var at []api.Rat
		for v := range 4 {
			x, _ := gauss.Fixed(l, v, 4)
			at = append(at, x)
		}
		for _, c := range l {
			expectHolds(t, c, at, true)
		}
		for range 9 {
			c := m.con()
			if m.Intn(2) == 0 {
				c.K = normal(new(big.Rat).Sub(value(c.K), saidAt(c, at)))
			}
			holds := gauss.Holds(c, at)
			expectImplies(t, l, c, 4, holds)
			expectConsistent(t, append(slices.Clone(l), c), 4, holds)
			if holds {
				implied++
			}
		}
	}
	if count < 200 || implied < 500 {
		t.Error("too few of a kind:", count, implied)
	}
}

// W1: many sums, of many terms each, come to an end.
func TestManySums(t *testing.T) {
	m := &maker{Rand: rand.New(rand.NewSource(104)), n: 64, terms: 3, sizes: 4}
	l := m.agreeing(m.sums(1000))
	expectConsistent(t, l, 64, true)
	expectRank(t, l, 64, 64)
	expectImplies(t, l, l[999], 64, true)
	same := slices.Repeat(sums("a + b + c - 1, a - b, 2*a - 2*b"), 10000)
	expectRank(t, same, 64, 2)
	expectConsistent(t, append(same, sum("a - b - 1")), 64, false)
	// Each sum has all variables: of a square of powers none is put together
	// of others.
	var powers []api.Con
	for i := range 65 {
		c, x := con(0, whole(-1)), big.NewRat(1, 1)
		for v := range 64 {
			c.Terms = append(c.Terms, term(v, normal(x)))
			x.Mul(x, big.NewRat(int64(i+1), 7))
		}
		powers = append(powers, c)
	}
	expectRank(t, powers[:64], 64, 64)
	expectRank(t, powers[:63], 64, 63)
	expectFixed(t, powers[:64], 0, 64, whole(1))
	expectFixed(t, powers[:64], 63, 64, whole(0))
	expectFree(t, powers[:63], 0, 64)
	expectConsistent(t, powers, 64, true)
	// A chain of long numbers: each one tells the next.
	var chain []api.Con
	want := big.NewRat(1, 1)
	for v := range 63 {
		by := long(m.Rand, 4, 4)
		chain = append(chain, con(0, whole(0), term(v, whole(1)), term(v+1, by)))
		want.Mul(want, value(by)).Neg(want)
	}
	expectRank(t, chain, 64, 63)
	chain = append(chain, con(0, whole(-1), row(63, 1)...))
	expectFixed(t, chain, 0, 64, normal(want))
	expectFixed(t, chain, 63, 64, whole(1))
}

// W1: sums of more terms than there are variables, and numbers of many limbs.
func TestGreatSums(t *testing.T) {
	great := con(0, whole(-1))
	for v := range 1 << 16 {
		great.Terms = append(great.Terms, term(v, whole(1)))
	}
	expectRank(t, []api.Con{great}, highest, 0)
	expectImplies(t, []api.Con{great}, great, highest, false)
	expectHolds(t, great, wholes(1), true)
	expectHolds(t, great, slices.Repeat(wholes(1), 1<<16), false)
	limbs := slices.Repeat([]uint32{most}, 3000)
	huge := con(0, ratOf(true, limbs, []uint32{1}), row(0, 1)...)
	expectFixed(t, []api.Con{huge, huge}, 0, 1, ratOf(false, limbs, []uint32{1}))
	expectConsistent(t, []api.Con{huge, con(0, ratOf(false, limbs, []uint32{1}), row(0, 1)...)}, 1, false)
	expectConsistent(t, []api.Con{con(0, ratOf(false, []uint32{1}, limbs))}, 1, false)
}

package graph_test

import (
	"math/big"
	"math/rand"
	"slices"
	"testing"

	"pantograph/api"
	"pantograph/graph"
)

// P11.3: constraints by hand, in all their orders.
func TestAllOrders(t *testing.T) {
	for _, x := range []struct {
		cons     string
		isForest bool
	}{
		{"ab", true}, {"ab bc", true}, {"ab ab", false}, {"ab bc cd", true}, {"ab bc ac", false}, {"ab bc ac -", false}, {"ab cd ac bd", false}, {"ab cd ac b d", true}, {"abc cde aeg", false}, {"abc cde efg", true}, {"abc cde efg bf", false}, {"abcdefgh ah", false}, {"abcdefgh a h -", true},
		{"ab ac ad ae", true}, {"ab ac ad ae be", false}, {"ad bd cd abc", false}, {"ad bd cd ae", true}, {"ab bc cd de ae", false}, {"ab bc cd de af", true}, {"abc def adg cgh", false}, {"abc def ag dgh", true}, {"gh gh ab cd ef", false}, {"ab cd ef gh", true}, {"ab bc ac de df ef", false}, {"bh cg df cd gh ae", true},
	} {
		l := append(cons(x.cons), badCons()[len(x.cons)])
		want := graph.Apart(l, 8)
		permuted(l, func(list []api.Con) {
			if graph.Forest(list, 8) != x.isForest {
				t.Fatal("Forest is not", x.isForest, "of", list)
			}
			expectApart(t, list, 8, want)
			expectFirst(t, list, 8, saidOf(list, 8).first)
		})
		expectSaid(t, l, 8)
	}
}

// P11.1, P11.2, P11.3: all lists of up to three constraints of four variables.
func TestAllOfFourVariables(t *testing.T) {
	every := make([]api.Con, 16)
	for i := range every {
		for v := range 4 {
			if i>>v&1 == 1 {
				every[i].Terms = append(every[i].Terms, term(v, whole(1)))
			}
		}
		every[i].K = whole(0)
	}
	forests, rings := 0, 0
	for _, a := range every {
		for _, b := range every {
			for _, c := range every {
				l := []api.Con{a, b, c}
				for n := range 6 {
					expectFirst(t, l[:2], n, saidOf(l[:2], n).first)
					if expectSaid(t, l, n).first < 0 {
						forests++
					} else {
						rings++
					}
				}
				if is := graph.Forest(l, 4); is != graph.Forest([]api.Con{c, a, b}, 4) || is != graph.Forest([]api.Con{b, a, c}, 4) {
					t.Fatal("another order makes a difference:", l)
				}
			}
		}
	}
	if forests < 8000 || rings < 4000 {
		t.Error("too few of a kind:", forests, rings)
	}
}

// maker makes constraints at random.
type maker struct {
	*rand.Rand
	n     int // of so many variables
	terms int // of at most so many terms
}

func (m *maker) number() api.Rat {
	return normal(big.NewRat(int64(m.Intn(19)-9), int64(1+m.Intn(9))))
}

func (m *maker) term(v int) api.Term {
	c := m.number()
	for len(c.N) == 0 {
		c = m.number()
	}
	return term(v, c)
}

// con is one of some variables, in whatever order they come.
func (m *maker) con(vars []int) api.Con {
	vars = slices.Clone(vars)
	slices.Sort(vars)
	c := con(m.Intn(5), m.number())
	for _, v := range vars {
		c.Terms = append(c.Terms, m.term(v))
	}
	return c
}

// forest are constraints of which each has variables of parts that no other
// one joined.
func (m *maker) forest(count int) []api.Con {
	var list []api.Con
	part := upTo(m.n)
	for len(list) < count {
		var vars []int
		for _, v := range m.Perm(m.n)[:min(m.n, m.Intn(m.terms+1))] {
			if !slices.ContainsFunc(vars, func(w int) bool { return part[v] == part[w] }) {
				vars = append(vars, v)
			}
		}
		for _, v := range vars {
			from := part[v]
			for w := range part {
				if part[w] == from {
					part[w] = part[vars[0]]
				}
			}
		}
		list = append(list, m.con(vars))
	}
	return list
}

// broken are constraints of which some are anything.
func (m *maker) broken(list []api.Con, count int) []api.Con {
	list = slices.Clone(list)
	for range count {
		c := m.con(m.Perm(m.n)[:min(m.n, 2+m.Intn(m.terms))])
		list = slices.Insert(list, m.Intn(len(list)+1), c)
	}
	return list
}

// P11.1, P11.2, P11.3: many rows of constraints, held against what the tests
// say of them, in several orders.
func TestRandomConstraints(t *testing.T) {
	m := &maker{Rand: rand.New(rand.NewSource(111))}
	forests, rings, late, parts := 0, 0, 0, map[int]int{}
	for i := range 3000 {
		m.n, m.terms = 1+m.Intn(12), 1+m.Intn(5)
		l := m.forest(m.Intn(12))
		if i%2 == 0 {
			l = m.broken(l, 1+m.Intn(2))
		}
		if i%3 == 0 {
			l = slices.Insert(slices.Clone(l), m.Intn(len(l)+1), badCons()[m.Intn(60)])
		}
		for _, n := range []int{m.n, m.n + m.Intn(3), m.Intn(m.n + 1)} {
			s := expectSaid(t, l, n)
			for range 3 {
				list := shuffled(m.Rand, l)
				if got := expectSaid(t, list, n); (got.first < 0) != (s.first < 0) || !slices.Equal(got.apart, s.apart) {
					t.Fatal("of", n, "variables another order makes a difference:", l, list)
				}
			}
			switch {
			case s.first < 0:
				forests++
			case s.first > 3:
				late++
				rings++
			default:
				rings++
			}
			parts[len(slices.Compact(slices.Sorted(slices.Values(s.apart))))]++
		}
	}
	if forests < 4000 || rings < 1500 || late < 500 || parts[1] < 500 || parts[2] < 500 || parts[5] < 300 || parts[9] < 100 {
		t.Error("too few of a kind:", forests, rings, late, parts)
	}
}

// P11.1, P11.2, P11.3: many variables.
func TestManyVariables(t *testing.T) {
	m := &maker{Rand: rand.New(rand.NewSource(112))}
	for i := range 24 {
		m.n, m.terms = []int{20, 40, 64}[i%3], 2+i%4
		l := m.forest(m.n)
		if i%2 == 0 {
			l = m.broken(l, 1+i%3)
		}
		s := expectSaid(t, l, m.n)
		list := shuffled(m.Rand, l)
		if got := expectSaid(t, list, 64); !slices.Equal(got.apart[:m.n], s.apart) || (got.first < 0) != (s.first < 0) {
			t.Fatal("another order makes a difference:", l, list)
		}
	}
}

// P11.1, P11.2: rings of all sizes, closed in the last place, in any order.
func TestRingsOfAllSizes(t *testing.T) {
	r := rand.New(rand.NewSource(113))
	for size := 2; size <= 64; size++ {
		vars := r.Perm(64)[:size]
		var ring []api.Con
		for i, v := range vars {
			w := vars[(i+1)%size]
			ring = append(ring, of(min(v, w), max(v, w)))
		}
		apart := upTo(64)
		for _, v := range vars {
			apart[v] = slices.Min(vars)
		}
		for range 4 {
			l := shuffled(r, ring)
			expectFirst(t, l, 64, size-1)
			expectFirst(t, l[:size-1], 64, -1)
			expectApart(t, l, 64, apart)
			expectApart(t, l[1:], 64, apart)
		}
	}
}

// W1: many constraints, and great ones, come to an end.
func TestManyConstraints(t *testing.T) {
	var chain []api.Con
	for v := range 63 {
		chain = append(chain, of(v, v+1))
	}
	slices.Reverse(chain)
	l := append(chain, slices.Repeat(append(cons("- a h"), badCons()[:40]...), 3000)...)
	expectFirst(t, l, 64, -1)
	expectApart(t, l, 64, make([]int, 64))
	expectFirst(t, append(l, of(0, 63)), 64, len(l))
	expectApart(t, slices.Repeat([]api.Con{of(upTo(64)...)}, 3000), 64, make([]int, 64))
	great := of(upTo(1 << 16)...)
	expectFirst(t, []api.Con{great, great, of(0, 1)}, highest, -1)
	expectApart(t, []api.Con{great}, highest, upTo(64))
	limbs := slices.Repeat([]uint32{most}, 3000)
	huge := con(0, ratOf(true, limbs, []uint32{1}), term(0, ratOf(false, []uint32{1}, limbs)), term(1, ratOf(false, limbs, []uint32{1})))
	expectFirst(t, []api.Con{huge, huge}, 2, 1)
	huge.K = ratOf(false, limbs, limbs)
	expectFirst(t, []api.Con{huge, huge}, 2, -1)
}

package hier_test

import (
	"math/big"
	"math/rand"
	"slices"
	"testing"

	"pantograph/api"
	"pantograph/hier"
)

// maker makes constraints and values at random.
type maker struct {
	*rand.Rand
	n     int // of so many variables
	terms int // of at most so many terms
	sizes int // numbers of at most so great parts
}

func (m *maker) number() *big.Rat {
	return big.NewRat(int64(m.Intn(2*m.sizes+1)-m.sizes), int64(1+m.Intn(m.sizes)))
}

func (m *maker) con() api.Con {
	c := con(m.Intn(5), normal(m.number()))
	vars := m.Perm(m.n)[:min(m.n, m.Intn(m.terms+1))]
	slices.Sort(vars)
	for _, v := range vars {
		x := m.number()
		for x.Sign() == 0 {
			x = m.number()
		}
		c.Terms = append(c.Terms, term(v, normal(x)))
	}
	return c
}

// cons are some, of which some stand twice, with another Strength or number.
func (m *maker) cons(count int) []api.Con {
	var list []api.Con
	for len(list) < count {
		c := m.con()
		if len(list) > 0 && m.Intn(4) == 0 {
			c = list[m.Intn(len(list))]
			c.Strength = m.Intn(5)
			if m.Intn(2) == 0 {
				c.K = normal(m.number())
			}
		}
		list = append(list, c)
	}
	return list
}

func (m *maker) values(count int) []api.Rat {
	var list []api.Rat
	for range count {
		list = append(list, normal(m.number()))
	}
	return list
}

// some are a list of which each may be what it is in another one.
func (m *maker) some(list, other []api.Rat) []api.Rat {
	list = slices.Clone(list)
	for i := range list {
		if i < len(other) && m.Intn(3) == 0 {
			list[i] = other[i]
		}
	}
	return list
}

func allNormal(at []*big.Rat) []api.Rat {
	var list []api.Rat
	for _, x := range at {
		list = append(list, normal(x))
	}
	return list
}

// best are values that nothing beats: from the strongest on, each holds that
// can beside those that hold.
func (s *said) best() []api.Rat {
	var taken []line
	at := newLine(s.n)[:s.n]
	for strength := range 5 {
		for _, a := range s.all {
			if a.line == nil || a.strength != strength {
				continue
			}
			if with := solved(append(slices.Clone(taken), a.line), s.n); with != nil {
				taken, at = append(taken, a.line), with
			}
		}
	}
	return allNormal(at)
}

// others are values of which some may be better: they make some of all
// constraints hold.
func (m *maker) others(s *said, count int) [][]*big.Rat {
	var list [][]*big.Rat
	for range count {
		var rows []line
		for _, a := range s.all {
			if a.line == nil || m.Intn(3) == 0 {
				continue
			}
			if at := solved(append(slices.Clone(rows), a.line), s.n); at != nil {
				rows = append(rows, a.line)
			}
		}
		list = append(list, solved(rows, s.n))
	}
	return list
}

// P12.2, P12.3: where none is told no values are better; where one is told
// some are.
func TestBetterValues(t *testing.T) {
	m := &maker{Rand: rand.New(rand.NewSource(121))}
	best, beaten, stays, better, late := 0, 0, 0, 0, 0
	for i := range 1500 {
		m.n, m.terms, m.sizes = m.Intn(6), 1+m.Intn(3), []int{1, 2, 5, 100}[i%4]
		l, before := m.cons(m.Intn(8)), m.values(m.Intn(m.n+2))
		if i%3 == 0 {
			l = slices.Insert(l, m.Intn(len(l)+1), badCons(m.n)[m.Intn(500)])
		}
		good := saidOf(l, before, make([]api.Rat, m.n)).best()
		expectBeaten(t, l, before, good, -1)
		for _, val := range [][]api.Rat{good, m.values(m.n), m.some(m.values(m.n), before), m.some(good, before), m.some(good, m.values(m.n))} {
			s := expectSaid(t, l, before, val)
			told := hier.Beaten(l, before, val)
			list := append(m.others(s, 6), saidOf(nil, nil, good).at, saidOf(nil, nil, m.values(m.n)).at, saidOf(nil, nil, m.some(val, before)).at)
			for _, other := range list {
				if s.isBetter(other) {
					better++
					if told < 0 {
						t.Fatal("these values are better:", other, l, before, val)
					}
				}
			}
			switch {
			case told < 0:
				best++
				continue
			case s.all[told].isTrue || !s.isBetter(s.witness(told)):
				t.Fatal("no values are better:", told, l, before, val)
			case told >= len(l):
				stays++
			default:
				beaten++
			}
			if told > 2 {
				late++
			}
		}
	}
	if best < 2000 || beaten < 2000 || stays < 400 || better < 10000 || late < 500 {
		t.Error("too few of a kind:", best, beaten, stays, better, late)
	}
}

// P12.1, P12.2: all lists of two constraints of two variables.
func TestAllOfTwoVariables(t *testing.T) {
	var every []api.Con
	for _, terms := range [][]api.Term{nil, row(0, 1), row(1, 1), row(0, 1, 1, 1), row(0, 1, 1, -1)} {
		for _, k := range []int{0, -1} {
			for _, strength := range []int{0, 3, 4} {
				every = append(every, con(strength, whole(k), terms...))
			}
		}
	}
	points := [][]api.Rat{numbers("0 0"), numbers("0 1"), numbers("1 0"), numbers("1 1")}
	told := map[int]int{}
	for _, a := range every {
		for _, b := range every {
			for i, val := range points {
				for k, before := range points {
					s := expectSaid(t, []api.Con{a, b}, before, val)
					told[s.beaten()]++
					for _, other := range points {
						if s.isBetter(saidOf(nil, nil, other).at) && s.beaten() < 0 {
							t.Fatal("better:", a, b, i, k, other)
						}
					}
				}
			}
		}
	}
	if told[-1] < 3000 || told[0] < 3000 || told[1] < 2000 || told[2] < 1000 || told[3] < 300 {
		t.Error("too few of a kind:", told)
	}
}

// P12.1, P12.2: in all orders the first that could is told, and the stays are
// behind; what could does not hang on the order.
func TestAllOrders(t *testing.T) {
	for _, x := range []struct{ cons, before, val string }{
		{"required a = 1, weak a = 5, medium a = 1", "", "1"}, {"required a = b, strong b = 3, medium a = 4, weak a = 3", "", "3 3"}, {"weak a = 5, strong b = 2, required 1 = 0, medium a = b", "1 1", "1 1"}, {"weak a = 5, weak a = 6, weak a = 7", "", "0"}, {"required a + b = 3, strong a - b = 1, weak a = 5, medium c = 9", "", "2 1 0"},
		{"required a = b, strong c = 1, stay a = 5", "1 1 1", "2 2 1"}, {"stay a = 1, stay a = 5, weak b = 2", "5 2", "1 2"}, {"required a = b", "1 2 3", "2 2 4"}, {"required 0 = 0, weak b = 0, strong a = 1", "1", "1"}, {"medium a = 1, weak a = 5, strong a = 5, medium b = 1", "", "1 1"},
	} {
		l, before, val := cons(x.cons), numbers(x.before), numbers(x.val)
		l = append(l, badCons(len(val))[len(x.cons)])
		s := expectSaid(t, l, before, val)
		numbersOf := make([]int, len(l))
		for i := range numbersOf {
			numbersOf[i] = i
		}
		permuted(numbersOf, func(order []int) {
			var list []api.Con
			want := -1
			for at, i := range order {
				list = append(list, l[i])
				if want < 0 && slices.Contains(s.could(), i) {
					want = at
				}
			}
			if want < 0 {
				want = s.beaten()
			}
			expectBeaten(t, list, before, val, want)
			expectLevels(t, list, val, levelsOf(l, s)...)
		})
	}
}

// P12.2: constraints of many values.
func TestManyValues(t *testing.T) {
	m := &maker{Rand: rand.New(rand.NewSource(122)), terms: 3, sizes: 4}
	told := map[bool]int{}
	for i := range 24 {
		m.n = []int{10, 20, 30, 64}[i%4]
		l, before := m.cons(m.n/2), m.values(m.n-i%2)
		val := saidOf(l, before, make([]api.Rat, m.n)).best()
		expectBeaten(t, l, before, val, -1)
		for range 3 {
			// A step aside: what held of this variable may hold no more.
			v := m.Intn(m.n)
			val[v] = normal(new(big.Rat).Add(value(val[v]), big.NewRat(1, 3)))
			told[expectSaid(t, l, before, val).beaten() < len(l)]++
		}
	}
	if told[true] < 10 || told[false] < 10 {
		t.Error("too few of a kind:", told)
	}
}

// W1: many constraints come to an end.
func TestManyConstraints(t *testing.T) {
	m := &maker{Rand: rand.New(rand.NewSource(123)), n: 64, terms: 3, sizes: 4}
	fives := slices.Repeat(numbers("5"), 64)
	l := chain(64, 5)
	for v := range 64 {
		l = append(l, is(3, v, 6), is(4, v, 7), is(3, v, 5))
	}
	expectBeaten(t, l, nil, fives, -1)
	expectBeaten(t, append(l, m.cons(40)...), nil, slices.Repeat(numbers("77"), 64), 63)
	expectBeaten(t, append(l[:63:63], is(3, 63, 6)), nil, slices.Repeat(numbers("77"), 64), 63)
	same := slices.Repeat(cons("required a + b = 3, weak a - b = 1, weak b = 0"), 100)
	expectBeaten(t, same, nil, numbers("2 1"), -1)
	expectBeaten(t, append(same, is(2, 0, 7)), nil, numbers("2 1"), 300)
	expectLevels(t, same, numbers("2 1"), 0, 0, 0, 100)
	expectLevels(t, same, numbers("2 0"), 100, 0, 0, 100)
	great := con(0, whole(-1))
	for v := range 1 << 16 {
		great.Terms = append(great.Terms, term(v, whole(1)))
	}
	expectBeaten(t, []api.Con{great, great}, nil, fives, 2)
	expectLevels(t, []api.Con{great, great}, fives, 0, 0, 0, 0)
	expectLevels(t, []api.Con{great, great}, slices.Repeat(numbers("1"), 1<<16), 2, 0, 0, 0)
}

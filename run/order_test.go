package run_test

import (
	"math/rand"
	"slices"
	"strings"
	"testing"

	"pantograph/api"
	"pantograph/run"
)

// P14.1: the plans of some choices.
func TestOrder(t *testing.T) {
	for _, x := range []struct{ choice, plan string }{
		{"", ""}, {"0:ab>b 3:a>a", "10"},
		// Nobody tells, one tells.
		{"0:-", ""}, {"3:a", ""}, {"0:ab 3:a 2:bc", ""}, {"0:a>a", "0"}, {"4:h>h", "0"}, {"0:abc>b", "0"}, {"0:- 0:a>a", "1"}, {"0:ab 3:a>a", "1"}, {"0:ab>a 3:a", "0"}, {"0:ab>b 3:a 3:b 0:- 4:a", "0"},
		// All tell, and none waits.
		{"0:a>a 1:b>b 2:c>c", "012"}, {"2:c>c 1:b>b 0:a>a", "012"}, {"3:ab>a 3:cd>c 3:ef>e", "012"}, {"0:b>b 0:a>a", "01"},
		// A chain in the order of its numbers, and against it.
		{"0:a>a 0:ab>b 0:bc>c 0:cd>d", "0123"}, {"0:cd>d 0:bc>c 0:ab>b 0:a>a", "3210"}, {"0:ab>b 0:bc>c 0:cd>d", "012"}, {"0:cd>d 0:bc>c 0:ab>b", "210"}, {"0:ab>a 0:bc>b 0:cd>c", "210"}, {"0:cd>c 0:bc>b 0:ab>a", "012"}, {"0:h>h 0:gh>g 0:fg>f 0:ef>e 0:de>d 0:cd>c 0:bc>b 0:ab>a", "01234567"}, {"0:ab>a 0:bc>b 0:cd>c 0:de>d 0:ef>e 0:fg>f 0:gh>g 0:h>h", "76543210"},
		{"0:bc>c 0:a>a 0:cd>d 0:ab>b", "1302"}, {"0:de>d 0:bc>b 0:cd>c 0:ab>a 0:e>e", "40213"}, {"0:bc>c 0:ab>b 0:cd>d 0:de>e", "1023"}, {"0:ac>c 0:ab>a 0:cd>d 0:b>b", "3102"},
		// Only those that tell are waited for.
		{"0:ab>b 0:bc>c", "01"}, {"0:bc>c 0:ab>b", "10"}, {"0:bc>c 0:ab", "0"}, {"0:bc>c 0:ab>a", "01"}, {"0:ab>a 0:bc>c", "01"}, {"0:ab 0:bc>c 0:a>a", "12"}, {"0:ab 0:bc>b 0:a>a", "12"}, {"0:- 0:ab>b 3:b 0:a>a 4:-", "31"}, {"0:ab>b 3:a 0:ac>a", "20"},
		// A lesser one that is ready later comes then.
		{"0:ab>b 0:c>c 0:a>a", "120"}, {"0:ab>b 0:a>a 0:c>c", "102"}, {"0:ab>b 0:c>c 0:d>d 0:a>a 0:e>e", "12304"}, {"0:cd>d 0:ab>b 0:a>a 0:c>c 0:e>e", "21304"}, {"0:ab>b 0:bc>c 0:a>a 0:d>d", "2013"}, {"0:bc>c 0:ab>b 0:a>a 0:d>d", "2103"}, {"0:bc>c 0:d>d 0:ab>b 0:e>e 0:a>a", "13420"}, {"0:de>e 0:d>d 0:bc>c 0:f>f 0:b>b 0:a>a", "103425"},
		// Trees: one that waits for several, several that wait for one.
		{"0:abc>a 0:b>b 0:c>c", "120"}, {"0:b>b 0:abc>a 0:c>c", "021"}, {"0:b>b 0:c>c 0:abc>a", "012"}, {"0:abc>a 0:bd>b 0:ce>c 0:e>e", "1320"}, {"0:ah>a 0:bh>b 0:ch>c 0:h>h", "3012"}, {"0:h>h 0:ch>c 0:bh>b 0:ah>a", "0123"}, {"0:ch>c 0:bh>b 0:h>h 0:ah>a", "2013"}, {"0:abcd>d 0:c>c 0:b>b 0:a>a", "1230"}, {"0:abcd>d 0:c>c 0:b>b", "120"}, {"0:abd>d 0:ah>a 0:ch>c 0:h>h 0:dg>g", "31024"}, {"0:ab>a 0:bc>b 0:bd>d 0:ef", "102"}, {"0:ab>a 0:bcd>b 0:ce>c 0:df>d 0:f>f", "24310"}, {"0:dg>g 0:abcd>d 0:h>h 0:bh>b 0:a>a 0:ce>c", "234510"},
		// Several apart.
		{"0:ab>b 0:cd>d 0:a>a 0:c>c", "2031"}, {"0:ab>b 0:cd>d 0:c>c 0:a>a", "2130"}, {"0:cd>d 0:ab>b 0:c>c 0:a>a", "2031"}, {"0:a>a 0:gh>g 0:bc>c 0:h>h 0:ab>b", "03142"}, {"0:gh>h 0:ef>f 0:cd>d 0:ab>b 0:g>g 0:e>e 0:c>c 0:a>a", "40516273"}, {"0:gh>h 0:ef>f 0:cd>d 0:ab>b 0:a>a 0:c>c 0:e>e 0:g>g", "43526170"},
		// Strengths make no difference.
		{"3:a>a 0:ab>b", "01"}, {"0:ab>b 3:a>a", "10"}, {"3:ab>b 0:a>a", "10"}, {"4:c>c 3:b>b 2:a>a 1:d>d", "0123"}, {"4:ab>b 2:d>d 0:a>a 3:c>c", "1203"},
	} {
		l, outs := choice(x.choice)
		var plan []int
		for _, digit := range x.plan {
			plan = append(plan, strings.IndexRune("0123456789", digit))
		}
		for _, n := range []int{8, 9, 64} {
			expectOrder(t, l, outs, n, plan)
			expectSaid(t, l, outs, numbers(strings.Repeat("2/3 ", n)))
		}
		if len(l) < 8 && !slices.Equal(leastOf(l, outs), plan) {
			t.Error("the plan is not the least one of", x.choice)
		}
	}
}

// P14.1, P14.2: where a choice may not be there is no plan, and no value.
func TestChoicesThatMayNotBe(t *testing.T) {
	for _, text := range []string{
		// What is told is of no Term of the constraint.
		"0:a>b", "0:ab>c", "0:bc>a", "0:ac>b", "0:->a", "3:bd>c 0:c>c", "0:a>a 0:b>c", "0:b>a 0:a>b", "4:h>a",
		// A variable is told twice.
		"0:a>a 0:a>a", "0:a>a 3:a>a", "0:ab>a 1:a>a", "0:ab>b 1:bc>b", "1:a>a 2:b>b 3:ac>a", "0:a>a 1:b 2:c>c 3:a>a",
		// Rings, whatever is told.
		"0:ab 0:ab", "0:ab>a 0:ab>b", "1:ab 2:bc 3:ac", "1:ab>a 2:bc>b 3:ac>c", "0:ab>b 1:c>c 0:ab", "0:abc>a 3:bc>b", "0:ab 0:bc 0:cd 0:de 0:ef 0:fg 0:gh 0:ah", "0:ab>a 0:bc>b 0:cd>c 0:de>d 0:ef>e 0:fg>f 0:gh>g 0:ah>h",
	} {
		l, outs := choice(text)
		for _, n := range []int{1, 7, 8, 9, 64} {
			expectNone(t, l, outs, n)
		}
		slices.Reverse(l)
		slices.Reverse(outs)
		expectNone(t, l, outs, 8)
	}
}

// P14.1, P14.2: of 1 to 64 variables, all of those of the constraints.
func TestNumbersOfVariables(t *testing.T) {
	l, outs := choice("1:a>a 0:- 2:a")
	for _, n := range []int{lowest, -1 << 32, -64, -2, -1, 0, 65, 66, 128, 1 << 16, 1 << 32, 1<<32 + 1, highest} {
		expectNone(t, nil, nil, n)
		expectNone(t, []api.Con{}, []int{}, n)
		expectNone(t, l, outs, n)
		expectNone(t, l[1:2], outs[1:2], n)
	}
	expectError(t, nil, nil, nil, -1, api.ErrArg)
	expectError(t, l, outs, nil, -1, api.ErrArg)
	expectError(t, l, outs, []api.Rat{}, -1, api.ErrArg)
	expectError(t, l, outs, make([]api.Rat, 0, 5), -1, api.ErrArg)
	for n := 1; n <= 64; n++ {
		val, nine := slices.Repeat(numbers("1/3"), n), slices.Repeat(numbers("1/3"), n)
		nine[n-1] = whole(9)
		expectOrder(t, nil, nil, n, nil)
		expectRun(t, nil, nil, val, val)
		last := con(0, whole(-9), row(n-1, 1)...)
		expectOrder(t, []api.Con{last}, []int{n - 1}, n, []int{0})
		expectRun(t, []api.Con{last}, []int{n - 1}, val, nine)
		expectRun(t, []api.Con{last}, []int{-1}, val, val)
		expectNone(t, []api.Con{last}, []int{n - 1}, n-1)
		expectNone(t, []api.Con{of(0, n)}, []int{-1}, n)
		expectNone(t, []api.Con{of(0, n-1, n)}, []int{n - 1}, n)
		for _, out := range []int{n, n + 1, 64, 65, 1 << 32, 1<<32 + n - 1, highest, -2, -3, -64, -1 << 32, lowest} {
			expectNone(t, []api.Con{last}, []int{out}, n)
			expectNone(t, []api.Con{of(1, 0), last, of(2)}, []int{-1, out, -1}, n)
		}
	}
}

// P14.1, P14.2: outs are as many as the constraints.
func TestAsManyOuts(t *testing.T) {
	l, _ := choice("0:ab 1:b 2:c 0:-")
	for count := range 9 {
		for _, outs := range [][]int{nobody(count), told("ab------")[:count]} {
			if count != 4 {
				expectNone(t, l, outs, 3)
			} else if expectSaid(t, l, outs, numbers("1 2 3")).none > 0 {
				t.Fatal("the tests say that a choice may not be:", outs)
			}
		}
	}
	for _, outs := range [][]int{nil, {}, {-1}, told("a---b"), slices.Repeat([]int{-1}, 1<<16)} {
		expectNone(t, l, outs, 3)
	}
	expectNone(t, nil, []int{-1}, 3)
	expectNone(t, nil, []int{0}, 3)
	for _, l := range [][]api.Con{nil, {}, make([]api.Con, 0, 3), l[:0]} {
		for _, outs := range [][]int{nil, {}, make([]int, 0, 3), told("ab")[:0]} {
			expectOrder(t, l, outs, 3, nil)
			expectRun(t, l, outs, numbers("1 2 3"), numbers("1 2 3"))
		}
	}
}

// P14.1, P14.2: at most 256 constraints.
func TestGreatestNumberOfConstraints(t *testing.T) {
	for _, count := range []int{254, 255, 256, 257, 258, 512, 1 << 16} {
		l, outs := slices.Repeat([]api.Con{of(3, 1), of(0), con(2, whole(-7), row(0, 1)...)}, count)[:count], nobody(count)
		outs[count-1-count%3], outs[count-count%3-3] = 0, 1
		if count > 256 {
			expectNone(t, l, outs, 2)
			expectNone(t, slices.Repeat([]api.Con{of(0)}, count), nobody(count), 2)
			continue
		}
		expectOrder(t, l, outs, 2, []int{count - count%3 - 3, count - count%3 - 1})
		expectRun(t, l, outs, numbers("1 2"), numbers("7 0"))
	}
}

// P14.1, P14.2: constraints that may not be, alone and one of many, wherever
// it stands.
func TestConstraintsThatMayNotBe(t *testing.T) {
	for _, text := range []string{"", "0:-", "3:d", "1:de>d", "2:de 0:e>e 3:f"} {
		l, outs := choice(text)
		for _, bad := range badCons() {
			for at := range len(l) + 1 {
				with := slices.Insert(slices.Clone(l), at, bad)
				for _, out := range []int{-1, 0, 1} {
					expectNone(t, with, slices.Insert(slices.Clone(outs), at, out), 6)
					expectNone(t, with, slices.Insert(slices.Clone(outs), at, out), 64)
				}
			}
		}
	}
}

// P14.1: some constraints in all their orders.
func TestAllOrders(t *testing.T) {
	for _, text := range []string{"0:ab>b 1:bc>c 2:cd>d 3:a>a", "0:abc>a 2:cde>c 1:b>b 3:d>d 3:e>e", "0:a>a 0:b>b 0:c>c 0:d>d", "0:ae>a 0:be>b 0:ce>c 0:de>d 0:e>e", "0:ab>b 0:bc 0:cd>d 0:c>c 0:a>a", "0:ab>b 0:bc>c 0:de>e 0:ef>f 0:d>d"} {
		l, outs := choice(text)
		seen := map[string]int{}
		permuted(upTo(len(l)), func(order []int) {
			var list []api.Con
			var choice []int
			for _, i := range order {
				list, choice = append(list, l[i]), append(choice, outs[i])
			}
			plan := leastOf(list, choice)
			expectOrder(t, list, choice, 6, plan)
			seen[textOf(plan)]++
		})
		if len(seen) < 2 && text[2] != 'a' {
			t.Error("too few plans:", seen)
		}
	}
}

func textOf(plan []int) string {
	var b strings.Builder
	for _, i := range plan {
		b.WriteByte("0123456789"[i])
	}
	return b.String()
}

// P14.1: many plans, held against all rows of those that tell.
func TestLeastPlans(t *testing.T) {
	m := &maker{Rand: rand.New(rand.NewSource(141))}
	risen := 0
	for range 600 {
		m.n, m.terms = 2+m.Intn(6), 2+m.Intn(2)
		l := m.forest(2 + m.Intn(5))
		outs := m.outs(l, 8)
		plan := leastOf(l, outs)
		expectOrder(t, l, outs, m.n, plan)
		if !slices.IsSorted(plan) {
			risen++
		}
	}
	if risen < 100 {
		t.Error("too few plans that are no order of numbers:", risen)
	}
}

// P14.1, P14.2: chains of all lengths, in any order of their variables and of
// the constraints.
func TestChainsOfAllLengths(t *testing.T) {
	r := rand.New(rand.NewSource(142))
	for size := 1; size <= 64; size++ {
		vars, order := r.Perm(64)[:size], r.Perm(size)
		l, outs := make([]api.Con, size), make([]int, size)
		want := slices.Repeat(numbers("1/2"), 64)
		for i, v := range vars {
			c := con(i%5, whole(-1), row(v, 1)...)
			if i > 0 {
				c.Terms = append(c.Terms, row(vars[i-1], -1)...)
				slices.SortFunc(c.Terms, func(a, b api.Term) int { return a.Var - b.Var })
			}
			l[order[i]], outs[order[i]], want[v] = c, v, whole(i+1)
		}
		expectOrder(t, l, outs, 64, order)
		expectRun(t, l, outs, slices.Repeat(numbers("1/2"), 64), want)
		if plan := run.Order(l, outs, 63); plan != nil && slices.Contains(vars, 63) {
			t.Fatal("there is a plan of too few variables:", plan)
		}
	}
}

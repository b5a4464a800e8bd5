package delta_test

import (
	"math/rand"
	"slices"
	"testing"

	"pantograph/api"
	"pantograph/delta"
)

// P13.2: the choice that comes of one that was ahead.
func TestSettle(t *testing.T) {
	for _, x := range []struct{ choice, settled string }{
		{"", ""}, {"0:ab 3:a", "ba"},
		// One, of no variable, of one, of many: the first of alike ones.
		{"0:-", "-"}, {"4:-", "-"}, {"0:a", "a"}, {"1:a", "a"}, {"2:a", "a"}, {"3:h", "h"}, {"0:ab", "a"}, {"3:bcd", "b"}, {"2:abcdefgh", "a"},
		// Nothing is weaker than Stay.
		{"4:a", "-"}, {"4:abc", "-"}, {"4:a 4:b 3:c", "--c"}, {"4:a>a", "a"}, {"4:ab>b", "b"}, {"4:a>a 4:a", "a-"}, {"4:a>a 3:a", "-a"}, {"4:ab>a 3:a", "-a"}, {"4:ab>b 3:b 4:a>a", "-ba"}, {"3:ab>a 4:b>b 2:a", "b-a"},
		// What is settled already.
		{"0:a>a", "a"}, {"0:ab>b", "b"}, {"0:ab>b 3:a>a", "ba"}, {"0:ab>a 3:b>b", "ab"}, {"3:a>a 3:a", "a-"}, {"3:a 3:a>a", "-a"}, {"2:a>a 3:a", "a-"}, {"0:ab>b 0:bc>c 0:cd>d 3:a>a", "bcda"}, {"0:- 3:a>a 4:b", "-a-"},
		// Several of one variable: the strongest, of alike ones the first; the
		// one that tells already, if none is stronger.
		{"3:a 3:a", "a-"}, {"3:a 2:a", "-a"}, {"3:a 2:a 1:a 0:a", "---a"}, {"0:a 1:a 2:a 3:a", "a---"}, {"2:a 0:a 0:a", "-a-"}, {"3:a>a 2:a", "-a"}, {"3:a>a 3:a 3:a", "a--"}, {"3:a 3:a 3:a>a", "--a"}, {"2:a>a 3:a 1:a", "--a"}, {"1:a>a 1:a 0:a 0:a", "--a-"}, {"0:a>a 0:a", "a-"},
		// By Strength, then by number, wherever they stand.
		{"3:ab 2:ab", "!"}, {"1:a 0:ab", "ab"}, {"0:ab 1:a", "ba"}, {"0:ab 1:b", "ab"}, {"3:ab 3:b 3:a", "ab-"}, {"3:a 3:b 3:ab", "ab-"}, {"3:b 3:ab 3:a", "ba-"}, {"3:b 3:ac 3:a", "bca"}, {"2:ab 3:a 1:b", "a-b"}, {"3:a 2:ab 1:b", "-ab"}, {"3:a 1:b 2:ab", "-ba"}, {"1:ab 2:a 2:b", "ba-"}, {"1:ab 2:b 2:a", "ab-"}, {"1:ab 3:b 2:a", "b-a"}, {"3:b 2:a 1:ab", "-ab"}, {"2:ab 2:bc 2:cd 2:d 2:a", "abcd-"}, {"2:a 2:d 2:cd 2:bc 2:ab", "adcb-"},
		// The weakest of several that are weaker; of alike ones the first.
		{"0:ab 3:a>a", "ba"}, {"0:ab 3:b>b", "ab"}, {"0:abc 3:a>a 2:b>b 1:c>c", "a-bc"}, {"0:abc 2:a>a 3:b>b 1:c>c", "ba-c"}, {"0:abc 1:a>a 2:b>b 3:c>c", "cab-"}, {"0:abc 1:a>a 3:b>b 3:c>c", "ba-c"}, {"0:abc 3:a>a 1:b>b 3:c>c", "a-bc"}, {"0:abc 3:a>a 3:b>b", "cab"}, {"0:abc 3:b>b", "ab"}, {"0:abcd 2:a>a 2:b>b 2:c>c 2:d>d", "a-bcd"}, {"2:ab 1:a>a", "ba"}, {"2:ab 1:b>b", "ab"}, {"2:abc 1:a>a 1:b>b 3:c>c", "cab-"}, {"0:bh 4:b>b 3:h>h", "b-h"}, {"0:bh 3:b>b 4:h>h", "hb-"}, {"3:ab 4:a>a", "a-"}, {"3:ab 4:b>b", "ab"},
		// All are as strong, or stronger; but one is weaker.
		{"2:ab 2:a>a 2:b>b", "-ab"}, {"2:ab 1:a>a 2:b>b", "-ab"}, {"2:ab 2:a>a 3:b>b", "ba-"}, {"2:ab 3:a>a 2:b>b", "a-b"}, {"2:abc 2:a>a 0:b>b 1:c>c", "-abc"}, {"2:abc 2:a>a 3:b>b 1:c>c", "ba-c"}, {"0:abc 0:a>a 0:b>b 1:c>c", "cab-"}, {"3:ab 3:a>a 3:b>b", "-ab"}, {"0:ab 0:a>a 0:b>b", "-ab"},
		// Who told it ahead tells another one.
		{"2:ab>a 1:a", "ba"}, {"0:ab>a 3:a", "ba"}, {"0:ab>b 3:b", "ab"}, {"0:abc>a 3:a", "ba"}, {"0:abc>b 3:b", "ab"}, {"0:abc>c 3:c", "ac"}, {"0:abc>a 3:a 1:b>b", "cab"}, {"0:abc>a 3:a 1:c>c", "bac"}, {"0:abc>a 1:a 3:b>b 2:c>c", "ba-c"}, {"0:abc>a 1:a 2:b>b 3:c>c", "cab-"},
		// Through chains.
		{"0:ab>a 0:bc>b 0:cd>c 3:a", "bcda"}, {"0:ab>b 0:bc>c 0:cd>d 3:d", "abcd"}, {"0:ab>a 1:bc>b 2:cd>c 3:a", "bcda"}, {"3:ab>a 3:bc>b 3:cd>c 2:a", "bcda"}, {"0:ab>a 0:bc>b 0:cd>c 0:de>d 0:ef>e 0:fg>f 0:gh>g 3:a", "bcdefgha"}, {"0:gh>h 0:fg>g 0:ef>f 0:de>e 0:cd>d 0:bc>c 0:ab>b 3:h", "gfedcbah"}, {"0:ac>c 0:bc>b 0:bd>d 3:d", "acbd"}, {"0:ab>a 0:bcd>b 0:ce>c 0:df>d 3:a 2:e>e", "bdcfae"}, {"0:ab>a 0:bcd>b 0:ce>c 0:df>d 3:a 2:f>f", "bcedaf"},
		// Who finds nothing free at the end of them tells none.
		{"3:a>a 0:a", "-a"}, {"0:ab>a 3:b>b 2:a", "b-a"}, {"0:ab>a 0:bc>b 3:c>c 2:a", "bc-a"}, {"0:ab>a 0:bc>b 2:c>c 1:a", "bc-a"}, {"0:ab>a 0:bc>b 1:c>c 2:a", "abc-"}, {"0:ab>a 0:bc>b 2:c>c 2:a", "abc-"}, {"0:ab>a 2:bc>b 1:c>c 1:a", "b-ca"}, {"2:ab>a 1:b>b 1:a", "-ba"}, {"0:ab>a 3:bc>b 2:c>c 0:d>d 1:ad", "b-cda"}, {"1:ab>a 1:bc>b 1:cd>c 3:d>d 2:a", "bcd-a"}, {"1:ab>a 1:bc>b 3:cd>c 1:d>d 2:a", "bc-da"}, {"0:abc>a 3:b>b 3:c>c 2:a", "b-ca"}, {"0:abc>a 2:b>b 3:c>c 1:a", "cb-a"},
		// A variable of who put it out is not free, though it is weak now.
		{"2:ac>a 1:ab", "ca"}, {"2:ab>a 1:ac", "ba"}, {"3:a>a 0:ab 2:b>b", "-ab"}, {"1:a>a 0:ab 1:b>b", "-ab"}, {"1:ac>a 0:ab 3:c>c 1:b>b", "ca-b"}, {"2:bc>b 2:cd>c 1:ab 1:a>a", "cdba"}, {"2:bc>b 1:ab 1:a>a 2:c>c", "-bac"}, {"3:b>b 2:abc 2:a>a 2:c>c", "-bac"}, {"3:bd>b 2:abc 2:a>a 2:c>c 3:d>d", "-bacd"},
		// Each Strength at once.
		{"4:a 3:b 2:c 1:d 0:e", "-bcde"}, {"0:ab 1:bc 2:cd 3:de 4:ef", "abcd-"}, {"4:ab 3:bc 2:cd 1:de 0:ef", "-bcde"}, {"0:ab 1:bc 2:cd 3:d 3:a", "abcd-"}, {"0:ab 1:b 2:a 3:a 4:b", "ab---"}, {"3:a 2:ab 1:b 0:bc 3:c", "-abc-"}, {"0:ad 1:bd 2:cd 3:d 3:a 3:b 3:c", "abcd---"}, {"0:ad 0:bd 0:cd 3:a 3:b 3:c 3:d", "dbca---"}, {"0:abcd 3:d 3:c 3:b 3:a", "adcb-"}, {"0:abcd 3:a 3:b 3:c 3:d", "dabc-"},
		// Several apart.
		{"0:ab 3:a 0:cd 3:d", "bacd"}, {"0:ab>a 3:a 0:gh>h 3:h 2:e", "bagh" + "e"}, {"3:a>a 2:a 3:b>b 3:b 3:c 1:c", "-ab--c"},
	} {
		l, outs := choice(x.choice)
		if x.settled == "!" {
			expectNone(t, l, outs, 8)
			continue
		}
		for _, n := range []int{8, 64} {
			expectSettle(t, l, outs, n, told(x.settled))
		}
		expectSaid(t, l, outs, 8)
	}
}

// P13.2: some constraints in all their orders. Each Strength is told as often.
func TestAllOrders(t *testing.T) {
	for _, text := range []string{"0:ab 1:bc 2:c 3:a", "3:a 3:a 2:a 2:b 1:ab", "0:ab 0:bc 0:cd 3:a 2:d", "2:ab 2:bc 2:cd 3:a 3:d 1:b", "0:abc 2:cde 1:a 3:b 3:d 3:e", "4:a 3:ab 2:bc 1:cd 0:d"} {
		l, _ := choice(text)
		want := []int(nil)
		permuted(upTo(len(l)), func(order []int) {
			var list []api.Con
			for _, i := range order {
				list = append(list, l[i])
			}
			expectSaid(t, list, nobody(len(l)), 5)
			settled, _ := delta.Settle(list, nobody(len(l)), 5)
			count := make([]int, 5)
			for i, out := range settled {
				if out >= 0 {
					count[list[i].Strength]++
				}
			}
			if want != nil && !slices.Equal(count, want) {
				t.Fatal("another order makes a difference:", count, want, list)
			}
			want = count
		})
	}
}

// P13.1, P13.2, P13.3: all choices of one and of two constraints of three
// variables, of each Strength, whether they may be or not.
func TestAllOfTwoConstraints(t *testing.T) {
	var all []api.Con
	for strength := range 5 {
		for set := range 8 {
			all = append(all, ofSet(strength, set))
		}
	}
	var k kinds
	for _, a := range all {
		for out := -2; out < 5; out++ {
			for n := range 5 {
				k.add(expectSaid(t, []api.Con{a}, []int{out}, n))
			}
		}
		for _, b := range all {
			for first := -1; first < 4; first++ {
				for second := -1; second < 4; second++ {
					k.add(expectSaid(t, []api.Con{a, b}, []int{first, second}, 3))
				}
			}
		}
	}
	if k.none < 10000 || k.same < 2000 || k.added < 1000 || k.moved < 50 || k.putOut < 50 || k.blocked < 100 || k.stays < 100 {
		t.Error("too few of a kind:", k)
	}
}

// ofSet is a constraint of the variables of a set.
func ofSet(strength, set int) api.Con {
	c := of(strength)
	for v := range 3 {
		if set>>v&1 == 1 {
			c.Terms = append(c.Terms, term(v, whole(1)))
		}
	}
	return c
}

// P13.1, P13.2, P13.3: all choices of three constraints of three variables, of
// three Strengths.
func TestAllOfThreeConstraints(t *testing.T) {
	var all []api.Con
	for _, strength := range []int{1, 3, 4} {
		for set := range 7 {
			all = append(all, ofSet(strength, set+1))
		}
	}
	var k kinds
	for _, a := range all {
		for _, b := range all {
			for _, c := range all {
				l := []api.Con{a, b, c}
				if !isForest(l, 3) {
					k.add(expectSaid(t, l, nobody(3), 3))
					continue
				}
				for _, outs := range everyChoice(l) {
					k.add(expectSaid(t, l, outs, 3))
				}
			}
		}
	}
	if k.none < 2000 || k.same < 5000 || k.added < 5000 || k.moved < 500 || k.putOut < 500 || k.blocked < 2000 || k.stays < 2000 {
		t.Error("too few of a kind:", k)
	}
}

// everyChoice are all choices of constraints in which no variable is told
// twice.
func everyChoice(l []api.Con) [][]int {
	list := [][]int{nil}
	for _, c := range l {
		var longer [][]int
		for _, outs := range list {
			longer = append(longer, append(slices.Clone(outs), -1))
			for _, t := range c.Terms {
				if !slices.Contains(outs, t.Var) {
					longer = append(longer, append(slices.Clone(outs), t.Var))
				}
			}
		}
		list = longer
	}
	return list
}

// P13.1, P13.2, P13.3: many rows of constraints, with and without a choice
// ahead, held against what the tests say of them.
func TestRandomChoices(t *testing.T) {
	m := &maker{Rand: rand.New(rand.NewSource(132))}
	var k kinds
	for i := range 8000 {
		m.n, m.terms = 1+m.Intn(12), 1+m.Intn(5)
		l := m.forest(m.Intn(16))
		outs := m.outs(l, i%11)
		k.add(expectSaid(t, l, outs, m.n))
		if i%4 == 0 && len(l) > 0 {
			broken := slices.Clone(outs)
			broken[m.Intn(len(l))] = m.Intn(m.n+2) - 1
			k.add(expectSaid(t, l, broken, m.n))
			k.add(expectSaid(t, slices.Insert(l, m.Intn(len(l)), m.con(m.Perm(m.n)[:min(m.n, 2)])), append(outs, -1), m.n))
		}
	}
	if k.none < 1500 || k.same < 1000 || k.added < 10000 || k.moved < 1500 || k.putOut < 1500 || k.blocked < 5000 || k.stays < 1000 {
		t.Error("too few of a kind:", k)
	}
}

// P13.1, P13.2, P13.3: many variables and constraints. One constraint is left
// out or put in, and it is settled anew.
func TestManyVariables(t *testing.T) {
	m := &maker{Rand: rand.New(rand.NewSource(133))}
	var k kinds
	for i := range 40 {
		m.n, m.terms = []int{20, 40, 64}[i%3], 2+i%4
		l := m.forest(m.n + i)
		outs := m.outs(l, i%11)
		for range 5 {
			k.add(expectSaid(t, l, outs, m.n))
			outs, _ = delta.Settle(l, outs, m.n)
			at := m.Intn(len(l))
			if i%2 == 0 {
				l, outs = slices.Delete(slices.Clone(l), at, at+1), slices.Delete(slices.Clone(outs), at, at+1)
			} else {
				l, outs = slices.Insert(slices.Clone(l), at, m.con(m.Perm(m.n)[:1])), slices.Insert(slices.Clone(outs), at, -1)
			}
		}
	}
	if k.none > 0 || k.added < 400 || k.moved < 100 || k.putOut < 20 {
		t.Error("too few of a kind:", k)
	}
}

// P13.2: through chains of all lengths, whatever the order of their variables
// and of the constraints; at the end there is a variable, or one is put out.
func TestChainsOfAllLengths(t *testing.T) {
	r := rand.New(rand.NewSource(134))
	for size := 1; size <= 64; size++ {
		vars := r.Perm(64)[:size]
		order := r.Perm(size + 1)
		l, outs, want := make([]api.Con, size+1), nobody(size+1), nobody(size+1)
		for i, v := range vars[:size-1] {
			w := vars[i+1]
			l[order[i]], outs[order[i]], want[order[i]] = of(i%3, min(v, w), max(v, w)), v, w
		}
		first, last := order[size-1], order[size]
		l[first], want[first] = of(3, vars[0]), vars[0]
		l[last] = of(4)
		expectSettle(t, l, outs, 64, want)
		l[last], outs[last] = of(4, vars[size-1]), vars[size-1]
		expectSettle(t, l, outs, 64, want)
		expectSaid(t, l, outs, 64)
		l[last].Strength = 3
		want, outs[first] = slices.Clone(outs), -1
		expectSettle(t, l, outs, 64, want)
		expectBlocked(t, l, outs, 64, []int{first})
	}
}

// W1: what is great comes to an end.
func TestGreatConstraints(t *testing.T) {
	great := of(0, upTo(1<<16)...)
	expectNone(t, []api.Con{great}, []int{0}, 64)
	expectNone(t, []api.Con{great}, []int{0}, 1<<16)
	limbs := slices.Repeat([]uint32{most}, 3000)
	huge := con(2, ratOf(true, limbs, []uint32{1}), term(0, ratOf(false, []uint32{1}, limbs)), term(1, ratOf(false, limbs, []uint32{1})))
	expectSettle(t, []api.Con{huge, of(3, 0)}, nobody(2), 2, []int{1, 0})
	huge.K = ratOf(false, limbs, limbs)
	expectNone(t, []api.Con{huge, of(3, 0)}, nobody(2), 2)
}

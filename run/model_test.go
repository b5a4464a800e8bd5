package run_test

import (
	"math/big"
	"slices"
	"testing"

	"pantograph/api"
)

func isNormal(a api.Rat) bool { return alike(a, normal(value(a))) }

// mayBe tells whether a constraint may be of n variables.
func mayBe(c api.Con, n int) bool {
	vars := []int{-1}
	for _, t := range c.Terms {
		if !isNormal(t.C) || value(t.C).Sign() == 0 {
			return false
		}
		vars = append(vars, t.Var)
	}
	for i := range vars[1:] {
		if vars[i] >= vars[i+1] {
			return false
		}
	}
	return vars[len(vars)-1] < n && slices.Contains([]int{0, 1, 2, 3, 4}, c.Strength) && isNormal(c.K)
}

// has tells whether a constraint has a Term of a variable.
func has(c api.Con, v int) bool {
	return slices.ContainsFunc(c.Terms, func(t api.Term) bool { return t.Var == v })
}

// isForest is told by counting: of a forest, and of nothing else, there are as
// many parts as variables and constraints, but for one less for each Term.
func isForest(l []api.Con, n int) bool {
	parts, terms := 0, 0
	seen := make([]bool, n+len(l)) // variables, then constraints
	for first := range seen {
		if seen[first] {
			continue
		}
		parts++
		next := []int{first}
		for len(next) > 0 {
			at := next[0]
			next = next[1:]
			seen[at] = true
			for other := range seen {
				if !seen[other] && isJoined(l, n, at, other) {
					next = append(next, other)
				}
			}
		}
	}
	for _, c := range l {
		terms += len(c.Terms)
	}
	return parts == n+len(l)-terms
}

// isJoined tells whether one of two is a variable of the other one.
func isJoined(l []api.Con, n, a, b int) bool {
	a, b = min(a, b), max(a, b)
	return a < n && b >= n && has(l[b-n], a)
}

// mayBeChoice is what the document says of a choice.
func mayBeChoice(l []api.Con, outs []int, n int) bool {
	if n < 1 || n > 64 || len(l) > 256 || len(outs) != len(l) {
		return false
	}
	for i, out := range outs {
		if !mayBe(l[i], n) || out != -1 && (!has(l[i], out) || slices.Contains(outs[:i], out)) {
			return false
		}
	}
	return isForest(l, n)
}

// needsOf are of each constraint those that tell a variable of it, which it
// does not tell itself.
func needsOf(l []api.Con, outs []int) [][]int {
	needs := make([][]int, len(l))
	for i, c := range l {
		for _, t := range c.Terms {
			if k := slices.Index(outs, t.Var); k >= 0 && k != i {
				needs[i] = append(needs[i], k)
			}
		}
	}
	return needs
}

// orderOf is the plan: behind each one that is put into it the search begins
// anew with the least one.
func orderOf(l []api.Con, outs []int) []int {
	needs, plan := needsOf(l, outs), []int(nil)
	isThere := func(k int) bool { return slices.Contains(plan, k) }
	for i := 0; i < len(l); i++ {
		isLacking := slices.ContainsFunc(needs[i], func(k int) bool { return !isThere(k) })
		if outs[i] != -1 && !isThere(i) && !isLacking {
			plan = append(plan, i)
			i = -1
		}
	}
	return plan
}

// leastOf is the plan, told otherwise: of all rows of those that tell, in each
// of which none stands ahead of one that it needs, the first one, as numbers
// are ordered one by one.
func leastOf(l []api.Con, outs []int) []int {
	needs, least := needsOf(l, outs), []int(nil)
	var telling []int
	for i, out := range outs {
		if out != -1 {
			telling = append(telling, i)
		}
	}
	permuted(telling, func(list []int) {
		for at, i := range list {
			for _, k := range needs[i] {
				if !slices.Contains(list[:at], k) {
					return
				}
			}
		}
		if least == nil || slices.Compare(list, least) < 0 {
			least = list
		}
	})
	return least
}

// valuesOf are the values that there must be: each is worked out of those that
// it hangs on, in no order.
func valuesOf(l []api.Con, outs []int, val []api.Rat) []*big.Rat {
	known := make([]*big.Rat, len(val))
	var find func(v int) *big.Rat
	find = func(v int) *big.Rat {
		i := slices.Index(outs, v)
		switch {
		case known[v] != nil:
		case i < 0:
			known[v] = value(val[v])
		default:
			rest, own := minus(value(l[i].K)), new(big.Rat)
			for _, t := range l[i].Terms {
				if t.Var == v {
					own = value(t.C)
				} else {
					rest.Sub(rest, new(big.Rat).Mul(value(t.C), find(t.Var)))
				}
			}
			known[v] = rest.Quo(rest, own)
		}
		return known[v]
	}
	for v := range val {
		find(v)
	}
	return known
}

func isLarge(x *big.Rat) bool {
	return x.Num().BitLen() > 16*32 || x.Denom().BitLen() > 16*32
}

// sumOf is what a constraint is at values.
func sumOf(c api.Con, val []api.Rat) *big.Rat {
	sum := value(c.K)
	for _, t := range c.Terms {
		sum.Add(sum, new(big.Rat).Mul(value(t.C), value(val[t.Var])))
	}
	return sum
}

// kinds is what came about among those that expectSaid held.
type kinds struct{ none, whole, large, late, risen, kept int }

func (k *kinds) add(o kinds) {
	k.none += o.none
	k.whole += o.whole
	k.large += o.large
	k.late += o.late
	k.risen += o.risen
	k.kept += o.kept
}

// expectSaid holds all that is told of a choice and of values against what the
// document says of them.
func expectSaid(t *testing.T, l []api.Con, outs []int, val []api.Rat) kinds {
	t.Helper()
	if !mayBeChoice(l, outs, len(val)) {
		expectOrder(t, l, outs, len(val), nil)
		expectError(t, l, outs, val, -1, api.ErrArg)
		return kinds{none: 1}
	}
	plan, must := orderOf(l, outs), valuesOf(l, outs, val)
	expectOrder(t, l, outs, len(val), plan)
	var k kinds
	if !slices.IsSorted(plan) {
		k.risen++
	}
	for at, i := range plan {
		if isLarge(must[outs[i]]) {
			expectError(t, l, outs, val, i, api.ErrLarge)
			k.large++
			if at > 1 {
				k.late++
			}
			return k
		}
	}
	var want []api.Rat
	for v, x := range must {
		want = append(want, normal(x))
		if isLarge(x) {
			k.kept++
		}
		if !slices.Contains(outs, v) && x.Cmp(value(val[v])) != 0 {
			t.Fatal("the tests change a value that nobody tells:", v)
		}
	}
	expectRun(t, l, outs, val, want)
	for i, c := range l {
		if outs[i] != -1 && sumOf(c, want).Sign() != 0 {
			t.Fatal("the tests tell values at which one that tells does not hold:", c, want)
		}
	}
	k.whole++
	return k
}

// What the tests say of some choices by hand.
func TestSaid(t *testing.T) {
	for _, x := range []struct {
		choice string
		n      int
		may    bool
		plan   []int
	}{
		{"", 1, true, nil}, {"0:ab>b 3:a>a", 2, true, []int{1, 0}}, {"0:ab>b 0:cd>d 3:a>a 3:c>c", 4, true, []int{2, 0, 3, 1}}, {"0:ab>a 3:c>c 3:-", 3, true, []int{0, 1}},
		{"0:ab 0:ab", 2, false, nil}, {"0:ab>a", 1, false, nil}, {"0:ab>c", 3, false, nil}, {"0:ab>a 0:a>a", 2, false, nil},
	} {
		l, outs := choice(x.choice)
		if mayBeChoice(l, outs, x.n) != x.may {
			t.Error("of", x.choice, "the tests say otherwise")
		}
		if got := orderOf(l, outs); x.may && (!slices.Equal(got, x.plan) || !slices.Equal(leastOf(l, outs), x.plan)) {
			t.Error("of", x.choice, "the tests say", got, leastOf(l, outs))
		}
	}
	l, outs := equations("2*a + b = 5 > a, b = 1/3 - c > b, d = 4")
	for v, want := range numbers("8/3 -1/3 2/3 5/4") {
		if got := valuesOf(l, outs, numbers("9 9 2/3 5/4")); !alike(normal(got[v]), want) {
			t.Error("of", v, "the tests say", got[v])
		}
	}
	for _, x := range []struct {
		number  *big.Rat
		isLarge bool
	}{{power(512, -1), false}, {power(512, 0), true}, {minus(power(512, -1)), false}, {minus(power(512, 0)), true}, {inverse(power(512, -1)), false}, {inverse(power(512, 0)), true}, {new(big.Rat), false}} {
		if isLarge(x.number) != x.isLarge {
			t.Error("of", x.number, "the tests say otherwise")
		}
	}
	for _, c := range badCons() {
		if mayBe(c, 64) {
			t.Error("the test's constraint may be:", c)
		}
	}
}

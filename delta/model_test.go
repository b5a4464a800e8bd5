package delta_test

import (
	"slices"
	"testing"

	"pantograph/api"
)

func isNormal(a api.Rat) bool { return alike(a, normal(value(a))) }

// mayBe tells whether a constraint may be of n variables.
func mayBe(c api.Con, n int) bool {
	vars := []int{-1}
	for _, t := range c.Terms {
		if !isNormal(t.C) || value(t.C).Sign() == 0 {
			return false
		}
		vars = append(vars, t.Var)
	}
	for i := range vars[1:] {
		if vars[i] >= vars[i+1] {
			return false
		}
	}
	return vars[len(vars)-1] < n && slices.Contains([]int{0, 1, 2, 3, 4}, c.Strength) && isNormal(c.K)
}

// has tells whether a constraint has a Term of a variable.
func has(c api.Con, v int) bool {
	return slices.ContainsFunc(c.Terms, func(t api.Term) bool { return t.Var == v })
}

// isForest is told by counting: of a forest, and of nothing else, there are as
// many parts as variables and constraints, but for one less for each Term.
func isForest(l []api.Con, n int) bool {
	parts, terms := 0, 0
	seen := make([]bool, n+len(l)) // variables, then constraints
	for first := range seen {
		if seen[first] {
			continue
		}
		parts++
		next := []int{first}
		for len(next) > 0 {
			at := next[0]
			next = next[1:]
			seen[at] = true
			for other := range seen {
				if !seen[other] && isJoined(l, n, at, other) {
					next = append(next, other)
				}
			}
		}
	}
	for _, c := range l {
		terms += len(c.Terms)
	}
	return parts == n+len(l)-terms
}

// isJoined tells whether one of two is a variable of the other one.
func isJoined(l []api.Con, n, a, b int) bool {
	a, b = min(a, b), max(a, b)
	return a < n && b >= n && has(l[b-n], a)
}

// mayBeChoice is what the document says of a choice.
func mayBeChoice(l []api.Con, outs []int, n int) bool {
	if n < 1 || n > 64 || len(l) > 256 || len(outs) != len(l) {
		return false
	}
	for i, out := range outs {
		if !mayBe(l[i], n) || out != -1 && (!has(l[i], out) || slices.Contains(outs[:i], out)) {
			return false
		}
	}
	return isForest(l, n)
}

// walkOf are the strengths of a choice that may be: each is worked out as soon
// as those that it hangs on are.
func walkOf(l []api.Con, outs []int, n int) []int {
	walk := nobody(n)
	for slices.Contains(walk, -1) {
		for v := range walk {
			teller := slices.Index(outs, v)
			if teller < 0 {
				walk[v] = 4
				continue
			}
			all := []int{l[teller].Strength}
			for _, t := range l[teller].Terms {
				if t.Var != v {
					all = append(all, walk[t.Var])
				}
			}
			if !slices.Contains(all, -1) {
				walk[v] = slices.Max(all)
			}
		}
	}
	return walk
}

// settledOf are the choices behind each round, the last one twice.
func settledOf(l []api.Con, outs []int, n int) [][]int {
	var rounds [][]int
	for {
		now := slices.Clone(outs)
		for strength := range 5 {
			for i, c := range l {
				if c.Strength == strength && now[i] == -1 {
					now = enforcedOf(l, now, n, i, nil)
				}
			}
		}
		rounds = append(rounds, now)
		if slices.Equal(now, outs) {
			return rounds
		}
		outs = now
	}
}

// enforcedOf is the choice behind one that is enforced, where some variables
// are not free.
func enforcedOf(l []api.Con, outs []int, n, i int, taken []int) []int {
	walk, best := walkOf(l, outs, n), -1
	for strength := 4; strength > l[i].Strength && best == -1; strength-- {
		for _, t := range slices.Backward(l[i].Terms) {
			if walk[t.Var] == strength && !slices.Contains(taken, t.Var) {
				best = t.Var
			}
		}
	}
	if best == -1 {
		return outs
	}
	ahead, outs := slices.Index(outs, best), slices.Clone(outs)
	outs[i] = best
	if ahead < 0 {
		return outs
	}
	outs[ahead] = -1
	for _, t := range l[i].Terms {
		taken = append(taken, t.Var)
	}
	return enforcedOf(l, outs, n, ahead, taken)
}

// blockedOf are those that are blocked in a choice that may be.
func blockedOf(l []api.Con, outs []int, n int) []int {
	walk := walkOf(l, outs, n)
	var list []int
	for i, c := range l {
		isWeaker := func(t api.Term) bool { return walk[t.Var] > c.Strength }
		if outs[i] == -1 && !slices.ContainsFunc(c.Terms, isWeaker) {
			list = append(list, i)
		}
	}
	return list
}

// mostOf is how many of those that are not weaker than a Strength can tell a
// variable each, at most: one after the other takes one, those that have it
// make way if they can.
func mostOf(l []api.Con, strength int) int {
	var tellers [64]int // 0: none, else the number and 1
	var asked []int
	var take func(i int) bool
	take = func(i int) bool {
		for _, t := range l[i].Terms {
			if slices.Contains(asked, t.Var) {
				continue
			}
			asked = append(asked, t.Var)
			if tellers[t.Var] == 0 || take(tellers[t.Var]-1) {
				tellers[t.Var] = i + 1
				return true
			}
		}
		return false
	}
	count := 0
	for i, c := range l {
		asked = nil
		if c.Strength <= strength && take(i) {
			count++
		}
	}
	return count
}

// kinds is what came about among those that expectSaid held.
type kinds struct{ none, same, added, moved, putOut, blocked, stays int }

func (k *kinds) add(o kinds) {
	k.none += o.none
	k.same += o.same
	k.added += o.added
	k.moved += o.moved
	k.putOut += o.putOut
	k.blocked += o.blocked
	k.stays += o.stays
}

// expectSaid holds all that is told of a choice against what the document says
// of it.
func expectSaid(t *testing.T, l []api.Con, outs []int, n int) kinds {
	t.Helper()
	if !mayBeChoice(l, outs, n) {
		expectNone(t, l, outs, n)
		return kinds{none: 1}
	}
	expectIs(t, l, outs, n)
	expectWalk(t, l, outs, n, walkOf(l, outs, n))
	expectBlocked(t, l, outs, n, blockedOf(l, outs, n))
	rounds := settledOf(l, outs, n)
	settled := rounds[len(rounds)-1]
	expectSettle(t, l, outs, n, settled)
	expectSettled(t, l, settled, n)
	return kindsOf(l, outs, settled)
}

// expectSettled: what P13.3 says of a choice that is settled, and, since those
// that tell none can't tell any beside those that are not weaker, of each
// Strength as many tell as can.
func expectSettled(t *testing.T, l []api.Con, outs []int, n int) {
	t.Helper()
	expectIs(t, l, outs, n)
	expectSettle(t, l, outs, n, outs)
	var silent []int
	telling := make([]int, 5)
	for i, out := range outs {
		if out == -1 {
			silent = append(silent, i)
			continue
		}
		for strength := l[i].Strength; strength < 5; strength++ {
			telling[strength]++
		}
	}
	expectBlocked(t, l, outs, n, silent)
	for strength := range 4 {
		if most := mostOf(l, strength); telling[strength] != most {
			t.Fatalf("%v tell up to Strength %v, not %v: %v, %v", telling[strength], strength, most, l, outs)
		}
	}
}

// kindsOf counts what came about.
func kindsOf(l []api.Con, outs, settled []int) kinds {
	var k kinds
	if slices.Equal(outs, settled) {
		k.same++
	}
	for i, c := range l {
		switch was, is := outs[i], settled[i]; {
		case was == is && is == -1 && c.Strength == 4 && len(c.Terms) > 0:
			k.stays++
		case was == is && is == -1:
			k.blocked++
		case was == -1:
			k.added++
		case is == -1:
			k.putOut++
		case was != is:
			k.moved++
		}
	}
	return k
}

// What the tests say of some choices by hand.
func TestSaid(t *testing.T) {
	for _, x := range []struct {
		choice  string
		n       int
		may     bool
		walk    string
		settled string
		blocked []int
	}{
		{"", 1, true, "4", "", nil}, {"0:ab 3:a", 2, true, "44", "ba", nil}, {"0:ab>a 3:a", 2, true, "44", "ba", nil}, {"0:ab>a 3:a 3:b>b", 2, true, "33", "a-b", []int{1}}, {"0:ab>a 0:bc>b 2:c>c 1:a", 3, true, "222", "bc-a", nil}, {"2:ac>a 1:ab", 3, true, "444", "ca", nil}, {"0:-", 2, true, "44", "-", []int{0}},
		{"0:ab 0:ab", 2, false, "", "", nil}, {"0:ab", 1, false, "", "", nil}, {"0:ab>c", 3, false, "", "", nil}, {"0:ab>a 0:a>a", 2, false, "", "", nil}, {"0:ab 0:bc 0:ac", 3, false, "", "", nil},
	} {
		l, outs := choice(x.choice)
		if mayBeChoice(l, outs, x.n) != x.may {
			t.Error("of", x.choice, "the tests say otherwise")
		}
		if !x.may {
			continue
		}
		rounds := settledOf(l, outs, x.n)
		if !slices.Equal(walkOf(l, outs, x.n), strengths(x.walk)) || !slices.Equal(rounds[len(rounds)-1], told(x.settled)) || !slices.Equal(blockedOf(l, outs, x.n), x.blocked) {
			t.Error("of", x.choice, "the tests say", walkOf(l, outs, x.n), rounds, blockedOf(l, outs, x.n))
		}
	}
	l, _ := choice("2:ab 3:a 1:b 0:c 0:c 3:-")
	for strength, want := range []int{1, 2, 3, 3, 3} {
		if got := mostOf(l, strength); got != want {
			t.Error("of Strength", strength, "the tests say", got)
		}
	}
	for _, c := range badCons() {
		if mayBe(c, 64) {
			t.Error("the test's constraint may be:", c)
		}
	}
	if (kindsOf(l, told("a-b---"), told("ba--c-")) != kinds{added: 2, moved: 1, putOut: 1, blocked: 2}) {
		t.Error("the tests say of a choice", kindsOf(l, told("a-b---"), told("ba--c-")))
	}
}

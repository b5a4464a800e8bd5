package solve_test

import (
	"math/big"
	"slices"
	"testing"

	"pantograph/api"
	"pantograph/delta"
	"pantograph/gauss"
	"pantograph/hier"
	"pantograph/run"
	"pantograph/solve"
)

// mayBe tells whether a constraint may be of n variables.
func mayBe(c api.Con, n int) bool {
	last := -1
	for _, t := range c.Terms {
		if t.Var <= last || t.Var >= n || !isNormal(t.C) || len(t.C.N) == 0 {
			return false
		}
		last = t.Var
	}
	return slices.Contains([]int{0, 1, 2, 3, 4}, c.Strength) && isNormal(c.K)
}

// ringOf is the first constraint with which those up to it are no forest: of a
// forest, and of nothing else, there are as many parts as variables and
// constraints, but for one less for each Term.
func ringOf(l []api.Con, n int) int {
	part, parts, terms := upTo(n+len(l)), n, 0
	for i, c := range l {
		parts++
		for _, t := range c.Terms {
			terms++
			from, to := part[t.Var], part[n+i]
			if from == to {
				continue
			}
			parts--
			for k := range part {
				if part[k] == from {
					part[k] = to
				}
			}
		}
		if parts != n+i+1-terms {
			return i
		}
	}
	return -1
}

// mayTell tells whether each that tells a variable has it, and none is told
// twice.
func mayTell(l []api.Con, outs []int) bool {
	for i, out := range outs {
		has := func(t api.Term) bool { return t.Var == out }
		if out != -1 && (!slices.ContainsFunc(l[i].Terms, has) || slices.Contains(outs[:i], out)) {
			return false
		}
	}
	return true
}

// said is what the document says that Phase answers, where chapters 13 and 14
// are as their packages say.
func said(l []api.Con, s solve.State) (solve.State, int, api.Errno) {
	n := len(s.Vals)
	bad := func(c api.Con) bool { return !mayBe(c, n) }
	if n < 1 || n > 64 || len(l) > 256 || len(s.Outs) != len(l) || slices.ContainsFunc(l, bad) {
		return solve.State{}, -1, api.ErrArg
	}
	if ring := ringOf(l, n); ring >= 0 {
		return solve.State{}, ring, api.ErrCycle
	}
	if !mayTell(l, s.Outs) {
		return solve.State{}, -1, api.ErrArg
	}
	outs, _ := delta.Settle(l, s.Outs, n)
	for i, c := range l {
		if c.Strength == 0 && outs[i] < 0 && len(c.Terms)+len(c.K.N) > 0 {
			return solve.State{}, i, api.ErrForced
		}
	}
	vals, i, err := run.Run(l, outs, s.Vals)
	if err != api.OK {
		return solve.State{}, i, err
	}
	return state(outs, vals), -1, api.OK
}

// kinds is what came about among those that expectSaid held.
type kinds struct{ arg, cycle, forced, bare, large, whole, silent, kept, moved int }

// expectSaid holds a Phase against what the document says of it, and what
// follows.
func (k *kinds) expectSaid(t *testing.T, l []api.Con, s solve.State) {
	t.Helper()
	want, number, err := said(l, s)
	if err == api.OK {
		expectPhase(t, l, s, want)
		k.whole++
		k.expectBest(t, l, s, want)
		return
	}
	expectError(t, l, s, number, err)
	switch err {
	case api.ErrArg:
		k.arg++
	case api.ErrCycle:
		k.cycle++
	case api.ErrForced:
		k.forced++
		if len(l[number].Terms) == 0 {
			k.bare++
		}
		expectFixed(t, l, s, number)
	case api.ErrLarge:
		k.large++
	}
}

// expectBest: what P15.2 says of what a Phase answers.
func (k *kinds) expectBest(t *testing.T, l []api.Con, s, got solve.State) {
	t.Helper()
	for i, c := range l {
		holds := sumOf(c, got.Vals).Sign() == 0
		switch {
		case got.Outs[i] >= 0:
			if !holds {
				t.Fatal("one that tells does not hold:", i, l, s, got)
			}
			if s.Outs[i] >= 0 && s.Outs[i] != got.Outs[i] {
				k.moved++
			}
		case !delta.Blocked(l, got.Outs, len(got.Vals), i):
			t.Fatal("one that tells none is not blocked:", i, l, s, got)
		case c.Strength == 0 && !holds:
			t.Fatal("a required one does not hold:", i, l, s, got)
		default:
			k.silent++
		}
	}
	if beaten := hier.Beaten(l, s.Vals, got.Vals); beaten != -1 {
		t.Fatal("what is told is beaten:", beaten, l, s, got)
	}
	for v, a := range got.Vals {
		if !slices.Contains(got.Outs, v) {
			k.kept++
			if value(a).Cmp(value(s.Vals[v])) != 0 {
				t.Fatal("what nobody tells is not what it was:", v, l, s, got)
			}
		}
	}
	if better := betterOf(l, s.Vals, got.Vals); better >= 0 {
		t.Fatal("one could hold, too:", better, l, s, got)
	}
	// A phase behind a phase changes nothing.
	expectPhase(t, l, got, got)
}

// expectFixed: what P15.2 says of who is forced.
func expectFixed(t *testing.T, l []api.Con, s solve.State, number int) {
	t.Helper()
	n := len(s.Vals)
	outs, _ := delta.Settle(l, s.Outs, n)
	var telling []api.Con
	var rows []line
	for i, c := range l {
		if c.Strength == 0 && outs[i] >= 0 {
			telling, rows = append(telling, c), append(rows, lineOf(c, n))
		}
	}
	for _, x := range l[number].Terms {
		a, ok := gauss.Fixed(telling, x.Var, n)
		if !ok {
			t.Fatal("who is forced has a variable that is free:", x.Var, number, l, s)
		}
		// It can't be another number than that.
		one := newLine(n)
		one[x.Var].SetInt64(1)
		one[n].Sub(big.NewRat(-1, 1), value(a))
		if solved(append(slices.Clone(rows), one), n) != nil {
			t.Fatal("a variable of who is forced may be another number:", x.Var, number, l, s)
		}
	}
}

// sumOf is what a constraint is at values.
func sumOf(c api.Con, val []api.Rat) *big.Rat {
	sum := value(c.K)
	for _, t := range c.Terms {
		sum.Add(sum, new(big.Rat).Mul(value(t.C), value(val[t.Var])))
	}
	return sum
}

// line is a constraint as a row of all its numbers, K behind those of the
// variables.
type line []*big.Rat

func newLine(n int) line {
	l := make(line, n+1)
	for i := range l {
		l[i] = new(big.Rat)
	}
	return l
}

func lineOf(c api.Con, n int) line {
	l := newLine(n)
	l[n] = value(c.K)
	for _, t := range c.Terms {
		l[t.Var] = value(t.C)
	}
	return l
}

// betterOf is the first of all constraints, stays behind them, that does not
// hold at values, though there are others at which it does, beside all that
// hold and are not weaker; -1, if there is none.
func betterOf(l []api.Con, before, val []api.Rat) int {
	n := len(val)
	all := slices.Clone(l)
	for v, was := range before {
		all = append(all, con(4, normal(minus(value(was))), term(v, whole(1))))
	}
	for i, c := range all {
		if sumOf(c, val).Sign() == 0 {
			continue
		}
		rows := []line{lineOf(c, n)}
		for _, other := range all {
			if other.Strength <= c.Strength && sumOf(other, val).Sign() == 0 {
				rows = append(rows, lineOf(other, n))
			}
		}
		if solved(rows, n) != nil {
			return i
		}
	}
	return -1
}

// solved are values at which all rows are 0; nothing, if there are none.
func solved(rows []line, n int) []*big.Rat {
	var stairs []line // each has a variable of its own, by itself once
	var own []int
	for _, l := range rows {
		rest := slices.Clone(l)
		for i, v := range own {
			rest = rest.less(stairs[i], v)
		}
		v := slices.IndexFunc(rest, func(x *big.Rat) bool { return x.Sign() != 0 })
		if v == n {
			return nil
		}
		if v < 0 {
			continue
		}
		by := new(big.Rat).Inv(rest[v])
		for i, x := range rest {
			rest[i] = new(big.Rat).Mul(x, by)
		}
		for i, l := range stairs {
			stairs[i] = l.less(rest, v)
		}
		stairs, own = append(stairs, rest), append(own, v)
	}
	at := newLine(n)[:n]
	for i, v := range own {
		at[v] = new(big.Rat).Neg(stairs[i][n])
	}
	return at
}

// less is a row without a variable, that another one has once.
func (l line) less(other line, v int) line {
	rest := slices.Clone(l)
	if by := l[v]; by.Sign() != 0 {
		for i, x := range other {
			rest[i] = new(big.Rat).Sub(l[i], new(big.Rat).Mul(by, x))
		}
	}
	return rest
}

// What the tests say of some constraints by hand.
func TestSaid(t *testing.T) {
	for _, x := range []struct {
		cons string
		ring int
	}{{"", -1}, {"weak a = b", -1}, {"weak a = b, weak a = b", 1}, {"weak a = b, weak c = d, weak b = c, weak 0 = 1, weak a = d", 4}, {"weak a + b = c, weak c = d, weak e = f, weak b + d = e", 3}, {"weak a = 1, weak a = 2, weak a = b, weak b = 3", -1}} {
		l, _ := cons(x.cons)
		if got := ringOf(l, 8); got != x.ring {
			t.Error("of", x.cons, "the tests say", got)
		}
	}
	for _, x := range []struct {
		cons, before, val string
		better            int
	}{{"weak a = 5", "1", "1", 0}, {"weak a = 5", "1", "5", -1}, {"required a + b = 10", "4 4", "6 4", -1}, {"required a + b = 10", "4 4", "5 5", 1}, {"strong a = 1, medium a = 2", "0", "2", 0}, {"strong a = 1, medium a = 2", "0", "1", -1}, {"weak a = 5, required a + b = 10", "4 4", "6 4", 0}} {
		l, _ := cons(x.cons)
		if got := betterOf(l, numbers(x.before), numbers(x.val)); got != x.better {
			t.Error("of", x.cons, "the tests say", got)
		}
	}
	for _, c := range badCons() {
		if mayBe(c, 64) {
			t.Error("the test's constraint may be:", c)
		}
	}
	l, _ := cons("required a = b")
	if !mayTell(l, told("b")) || mayTell(l, told("c")) || mayTell(append(l, l[0]), told("bb")) || !mayTell(append(l, l[0]), told("ba")) {
		t.Error("the tests say otherwise of who may tell")
	}
}

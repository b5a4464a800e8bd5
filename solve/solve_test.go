package solve_test

import (
	"math/rand"
	"slices"
	"strings"
	"testing"

	"pantograph/api"
	"pantograph/solve"
)

// P15.1, P15.2: the choice and the values behind some phases.
func TestPhase(t *testing.T) {
	for _, x := range []struct{ cons, before, outs, vals string }{
		{"", "1", "", "1"}, {"", "0 -1/2 7", "", "0 -1/2 7"},
		// One that tells, of each Strength; of Strength Stay only if it told.
		{"required a = 5", "1", "a", "5"}, {"strong a = 5", "1", "a", "5"}, {"medium a = 5", "1", "a", "5"}, {"weak a = 5", "1", "a", "5"}, {"stay a = 5", "1", "-", "1"}, {"stay a = 5 > a", "1", "a", "5"}, {"weak 2*a = 3", "7", "a", "3/2"}, {"weak b = 7", "1 2 3", "b", "1 7 3"},
		{"required a + b = 10", "0 0", "a", "10 0"}, {"required a + b = 10", "4 4", "a", "6 4"}, {"required a + b = 10 > b", "4 4", "b", "4 6"}, {"required a = b", "3 3", "a", "3 3"}, {"weak a - 2*b + c/3 = 1/2", "9 1/4 3", "a", "0 1/4 3"},
		// The stronger one tells, whatever told ahead.
		{"weak a = 1, strong a = 2", "0", "-a", "2"}, {"weak a = 1 > a, strong a = 2", "0", "-a", "2"}, {"strong a = 2, weak a = 1", "0", "a-", "2"}, {"strong a = 2, weak a = 1 > a", "0", "a-", "2"}, {"weak a = 1, weak a = 2", "0", "a-", "1"}, {"weak a = 1, weak a = 2 > a", "0", "-a", "2"}, {"medium a = 1, weak a = 2, strong a = 3, required a = 4", "0", "---a", "4"},
		// Who told makes way, and tells another one.
		{"required a = b, weak a = 5", "0 0", "ba", "5 5"}, {"required a = b > a, weak a = 5", "0 0", "ba", "5 5"}, {"required a = b > b, weak a = 5", "0 0", "ba", "5 5"}, {"required a + b = 10 > a, strong b = 3", "10 0", "ab", "7 3"}, {"required a + b = 10 > b, strong b = 3", "0 10", "ab", "7 3"},
		{"required a = b, required b = c, weak c = 2, strong a = 7", "0 0 0", "bc-a", "7 7 7"}, {"required a = b + c, strong a = 1, medium b = 2, weak c = 3", "0 0 0", "cab-", "1 2 -1"}, {"required b = 2*a, required c = 2*b, weak c = 12", "1 2 4", "abc", "3 6 12"}, {"required b = 2*a > b, required c = 2*b > c, weak a = 1/2 > a", "0 0 0", "bca", "1/2 1 2"}, {"weak c = 1, medium c = b, strong b = a, required a = 4", "1 2 3 9", "-cba", "4 4 4 9"},
		// Several apart.
		{"required a = b, required c + d = 1, weak a = 2, weak d = 3", "0 0 0 0 5", "bcad", "2 2 -2 3 5"}, {"weak h = 1, required d = e", "1 2 3 4 5 6 7 8", "hd", "1 2 3 5 5 6 7 1"},
		// Those that are not required may tell none: no error.
		{"required a = 1, strong a = 2, medium a = 3, weak a = 4, stay a = 5", "9", "a----", "1"}, {"required a = 1, strong a = 1", "9", "a-", "1"}, {"strong a = 1, strong b = 2, strong a = b", "0 0", "ab-", "1 2"}, {"strong 0 = 1, weak 1 = 0, medium 0 = 0, stay 1 = 2", "3", "----", "3"},
		// A required one without Terms whose K is 0 may tell none.
		{"required 0 = 0", "3", "-", "3"}, {"required a = a, required 2 = 2, weak a = 1", "3", "--a", "1"}, {"required a = 1, required 0 = 0, required b = a, required 1 = 1", "0 0", "a-b-", "1 1"},
	} {
		l, outs := cons(x.cons)
		s, want := state(outs, numbers(x.before)), state(told(x.outs), numbers(x.vals))
		expectPhase(t, l, s, want)
		expectPhase(t, l, state(outs, allRewritten(s.Vals)), want)
		expectPhase(t, l, want, want)
		new(kinds).expectSaid(t, l, s)
	}
}

// P15.1: 1 to 64 values, all of those of the constraints.
func TestNumbersOfValues(t *testing.T) {
	l, outs := cons("required a = 1, required 0 = 0, weak a = 5")
	for _, n := range []int{0, 65, 66, 128, 1 << 16} {
		for _, vals := range [][]api.Rat{slices.Repeat(numbers("1/3"), n), make([]api.Rat, n)} {
			for _, list := range [][]api.Con{nil, {}, l[:0]} {
				expectArg(t, list, nil, vals)
				expectArg(t, list, []int{}, vals)
			}
			expectArg(t, l, outs, vals)
			expectArg(t, l[1:2], outs[1:2], vals)
			expectArg(t, []api.Con{of(3)}, nobody(1), vals)
			expectArg(t, []api.Con{of(3, 64)}, nobody(1), vals)
			// Also where they close a ring.
			ring := []api.Con{of(0, 0, 1), of(0, 0, 1)}
			expectArg(t, ring, nobody(2), vals)
			expectArg(t, ring, told("ab"), vals)
		}
	}
	expectArg(t, nil, nil, nil)
	expectArg(t, l[1:2], outs[1:2], nil)
	for n := 1; n <= 64; n++ {
		before := slices.Repeat(numbers("1/3"), n)
		for _, list := range [][]api.Con{nil, {}, l[:0], make([]api.Con, 0, 3)} {
			for _, outs := range [][]int{nil, {}, told("ab")[:0]} {
				expectPhase(t, list, state(outs, before), state(nil, before))
			}
		}
		after := slices.Clone(before)
		after[0] = whole(1)
		expectPhase(t, l, state(outs, before), state(told("a--"), after))
		// The last one, the one behind it, and what there would be of more.
		last := slices.Clone(before)
		last[n-1] = whole(0)
		expectPhase(t, []api.Con{of(3, n-1)}, state(nobody(1), before), state([]int{n - 1}, last))
		expectArg(t, []api.Con{of(3, n)}, nobody(1), before)
		expectArg(t, []api.Con{of(3), of(0, n-1, n)}, nobody(2), before)
		expectArg(t, []api.Con{of(3, 64)}, nobody(1), before)
	}
}

// P15.1: at most 256 constraints.
func TestGreatestNumberOfConstraints(t *testing.T) {
	for _, count := range []int{255, 256, 257, 258, 512, 1 << 16} {
		for _, pattern := range []string{"required 0 = 0", "weak a = 7", "weak a = 1, strong a = 7, stay b = 1, required 0 = 0"} {
			l, _ := cons(pattern)
			l = slices.Repeat(l, count)[:count]
			s := state(nobody(count), numbers("3 4"))
			if count > 256 {
				expectArg(t, l, s.Outs, s.Vals)
				continue
			}
			want := state(nobody(count), numbers("3 4"))
			if at := strings.Index(pattern, "7"); at >= 0 {
				want.Outs[strings.Count(pattern[:at], ",")], want.Vals[0] = 0, whole(7)
			}
			expectPhase(t, l, s, want)
		}
	}
	// 256 by itself, also where other errors would be.
	l, _ := cons("required a = b, required a = b, required 0 = 1")
	l = slices.Repeat(l, 100)
	expectArg(t, l[:257], nobody(257), numbers("1 2"))
	expectError(t, l[:256], state(nobody(256), numbers("1 2")), 1, api.ErrCycle)
}

// P15.1: Outs are as many as constraints, also where these close a ring.
func TestAsManyOuts(t *testing.T) {
	l, _ := cons("required a + b = 10, weak b = 2, weak c = 3, required 0 = 0")
	vals := numbers("1 1 1")
	expectPhase(t, l, state(nobody(4), vals), state(told("abc-"), numbers("8 2 3")))
	ring, _ := cons("required a + b = 10, weak b = 2, weak a = b, required 0 = 1")
	for _, l := range [][]api.Con{l, ring} {
		for count := range 9 {
			if count != 4 {
				expectArg(t, l, nobody(count), vals)
				expectArg(t, l, told("abc-----")[:count], vals)
			}
		}
		expectArg(t, l, nil, vals)
		expectArg(t, l, slices.Repeat([]int{-1}, 1<<16), vals)
		expectArg(t, l[:1], nil, vals)
		expectArg(t, l[:1], []int{}, vals)
	}
	expectArg(t, nil, nobody(1), vals)
	expectArg(t, nil, []int{0}, vals)
	expectArg(t, []api.Con{}, nobody(2), vals)
}

// P15.1: constraints that may not be, alone and one of many, wherever they
// stand, also where the others close a ring.
func TestConstraintsThatMayNotBe(t *testing.T) {
	for _, text := range []string{"", "required 0 = 0", "weak d = 1", "required d = e > d, strong e = 1 > e", "required d = e, required d = e", "required 0 = 1, weak d = 1", "required d = 1, required d = 1"} {
		l, outs := cons(text)
		for _, bad := range badCons() {
			for at := range len(l) + 1 {
				with := slices.Insert(slices.Clone(l), at, bad)
				for _, out := range []int{-1, 0} {
					expectArg(t, with, slices.Insert(slices.Clone(outs), at, out), numbers("1 2 3 4 5 6"))
				}
			}
		}
	}
	// Behind the ring that others close, too.
	l, outs := cons("required a = b, required a = b, weak c = 1, weak d = 2")
	expectError(t, l, state(outs, numbers("1 2 3 4")), 1, api.ErrCycle)
	expectArg(t, l, outs, numbers("1 2 3"))
	l[3].K = api.Rat{}
	expectArg(t, l, outs, numbers("1 2 3 4"))
}

// P15.1: the first one that closes a ring, whatever the choice is.
func TestRings(t *testing.T) {
	for _, x := range []struct {
		cons   string
		number int
	}{
		{"required a = b, required a = b", 1}, {"weak a = b, weak b = a", 1}, {"stay a = b, stay a = b", 1}, {"strong a = b, weak c = 1, medium a + b = 3", 2}, {"weak a = b, weak b = c, weak c = d, weak d = a", 3}, {"weak a + b = c, weak b = c", 1}, {"weak a + b = c, weak a + b + c = 1, weak a = b", 1}, {"weak a = b, weak c = d, weak e = f, weak b + d = f, weak a = e, weak c = e", 4}, {"weak c = d, weak c = 1, weak c = 2, weak d = 3, weak d = c", 4}, {"weak a = h, required 0 = 1, required 0 = 1, weak a = h", 3}, {"required a = 1, required a = 1, weak a = b, weak a = b", 3},
	} {
		l, outs := cons(x.cons)
		vals := slices.Repeat(numbers("1/2"), 8)
		expectError(t, l, state(outs, vals), x.number, api.ErrCycle)
		expectError(t, append(l, l...), state(append(outs, outs...), vals), x.number, api.ErrCycle)
		// Whatever the choice is.
		for out := -3; out < 10; out++ {
			expectError(t, l, state(slices.Repeat([]int{out}, len(l)), vals), x.number, api.ErrCycle)
			expectError(t, l, state(append([]int{out}, outs[1:]...), vals), x.number, api.ErrCycle)
		}
		new(kinds).expectSaid(t, l, state(outs, vals))
		if x.number < len(l)-1 {
			continue
		}
		if _, _, err := solve.Phase(l[:x.number], state(outs[:x.number], vals)); err == api.ErrCycle {
			t.Error("those ahead close a ring, too:", x.cons)
		}
	}
}

// P15.1: over constraints without a ring a choice that may not be.
func TestChoicesThatMayNotBe(t *testing.T) {
	for _, text := range []string{
		// What is told is of no Term of the constraint.
		"weak a = 1 > b", "weak a = b > c", "required b = c > a", "weak a = c > b", "required 0 = 0 > a", "weak a = 1 > a, weak b = 1 > c", "weak a = 1 > b, weak b = 1 > a", "stay h = 1 > a",
		// A variable is told twice.
		"weak a = 1 > a, weak a = 1 > a", "required a = 1 > a, weak a = 2 > a", "weak a = b > a, strong a = 1 > a", "weak a = b > b, weak b = c > b", "strong a = 1 > a, medium b = 2 > b, weak a = c > a", "weak a = 1 > a, weak b = 2, weak c = 3 > c, weak a = 4 > a",
		// Also where somebody would be forced, or Large.
		"required a = 1, required a = 2, weak b = 1 > a", "required 0 = 1 > a", "required 0 = 1, weak a = 1 > a, weak a = 2 > a",
	} {
		l, outs := cons(text)
		expectArg(t, l, outs, numbers("1 2 3 4 5 6 7 8"))
		new(kinds).expectSaid(t, l, state(outs, numbers("1 2 3 4 5 6 7 8")))
	}
	l, _ := cons("weak a = b, required c = 1")
	for _, out := range []int{-2, -3, -64, 2, 3, 4, 63, 64, 65, 1 << 32, 1<<32 + 1, -1 << 32, highest, lowest} {
		expectArg(t, l, []int{out, -1}, numbers("1 2 3 4"))
		expectArg(t, l, []int{out, 2}, numbers("1 2 3 4"))
		if out != 2 {
			expectArg(t, l, []int{0, out}, numbers("1 2 3 4"))
		}
	}
}

// P15.1: the first required one that tells none behind Settle, but not one
// without Terms whose K is 0.
func TestForced(t *testing.T) {
	for _, x := range []struct {
		cons   string
		number int
	}{
		{"required a = 1, required a = 2", 1}, {"required a = 1, required a = 1", 1}, {"required a = 1, required a = 2 > a", 0}, {"required a = 1, required a = 2, required a = 3", 1}, {"required a = 1, required a = 2, required a = 3 > a", 0}, {"required a = 1, required a = 2 > a, required a = 3", 0}, {"required a = 1 > a, required a = 2, required a = 3", 1},
		{"required 0 = 1", 0}, {"required 1 = 0, weak a = 1", 0}, {"weak a = 1, required 0 = 1/2", 1}, {"required a = a + 1", 0}, {"required 0 = 0, required 0 = 1, required 0 = 2", 1}, {"required 0 = 0, required 0 = 0, required 1 = 1, required 1 = 2", 3},
		// One that says nothing is passed over.
		{"required 0 = 0, required a = 1, required a = 2", 2}, {"required a = 1, required 0 = 0, required a = 2", 2}, {"required a = 1, required 0 = 0, required a = 2, required 0 = 1", 2}, {"required a = 1, required 0 = 1, required a = 2", 1},
		// Those that are weaker don't count, wherever they stand.
		{"strong a = 1, required a = 1, weak a = 3, required a = 2", 3}, {"weak 0 = 1, strong 0 = 1, required a = 1, weak a = 1, medium a = 1, required a = 4", 5}, {"weak a = 3 > a, required a = 1, required a = 2", 2}, {"stay 0 = 1, weak b = 1, weak b = 2, required 0 = 1", 3},
		// Chains and trees of which each variable is told.
		{"required a = b, required a = 1, required b = 1", 2}, {"required a = 1, required b = 1, required a = b", 2}, {"required a = 1, required a = b, required b = 1", 2}, {"required a = b, required b = c, required c = d, required a = 1, weak b = 9, required d = 1", 5}, {"required a + b + c = 6, required a = 1, required b = 2, required c = 3", 3}, {"required a = 1 > a, required b = 2 > b, required c = 3 > c, required a + b + c = 6", 3}, {"required a + b + c = 6, required a = 1, required b = 2, weak c = 3", -1},
		// It is not the weaker one that is in the way.
		{"strong a = 1 > a, required a = b > b, required b = 2, required a = 2", 3}, {"required a = b > a, strong b = 1 > b, required a = 1, required b = 1", 3},
		// Several apart.
		{"required c = 1, required a = 1, required d = 2, required a = 2, required c = 3", 3}, {"required c = 1, required a = 1, required d = 2, required c = 3, required a = 2", 3},
	} {
		l, outs := cons(x.cons)
		s := state(outs, numbers("1 2 3 4"))
		new(kinds).expectSaid(t, l, s)
		if x.number < 0 {
			continue
		}
		expectError(t, l, s, x.number, api.ErrForced)
		expectError(t, l, state(outs, allRewritten(s.Vals)), x.number, api.ErrForced)
		// As a weaker one it is no error.
		for strength := 1; strength < 5; strength++ {
			l[x.number].Strength = strength
			if _, at, err := solve.Phase(l, s); err == api.ErrForced && at <= x.number {
				t.Error("a weaker one is forced:", x.cons)
			}
		}
	}
	// At the end of as many as may be.
	l, _ := cons("weak a = 5, required 0 = 0, required b = 2, weak b = 3")
	l = slices.Concat(slices.Repeat(l[:2], 100), l[2:], slices.Repeat(l[1:2], 53), l[2:3])
	expectError(t, l, state(nobody(256), numbers("0 0")), 255, api.ErrForced)
}

// largeNumbers are numbers that are Large, and next to each one that is not.
func largeNumbers() [][2]api.Rat {
	var list [][2]api.Rat
	for _, x := range [][2]uint{{512, 511}, {513, 500}, {20000, 300}} {
		large, next := power(x[0], 1), power(x[1], 1)
		list = append(list, [2]api.Rat{normal(large), normal(next)}, [2]api.Rat{normal(minus(large)), normal(minus(next))}, [2]api.Rat{normal(inverse(large)), normal(inverse(next))}, [2]api.Rat{normal(minus(inverse(large))), normal(minus(inverse(next)))})
	}
	return append(list, [2]api.Rat{normal(power(512, 0)), normal(power(512, -1))})
}

// P15.1: a value that is Large when it is made.
func TestLargeValues(t *testing.T) {
	for _, x := range largeNumbers() {
		large, next := x[0], x[1]
		// By a value that is handed in; b = a.
		l, outs := cons("weak c = 1, required b = a > b")
		expectError(t, l, state(outs, []api.Rat{large, whole(1), whole(2)}), 1, api.ErrLarge)
		expectPhase(t, l, state(outs, []api.Rat{next, whole(1), whole(2)}), state(told("cb"), []api.Rat{next, next, whole(1)}))
		// By a K, of each Strength.
		for strength := range 4 {
			l := []api.Con{of(3, 1), con(strength, normal(minus(value(large))), term(0, whole(1)))}
			expectError(t, l, state(nobody(2), numbers("1 2")), 1, api.ErrLarge)
			l[1].K = normal(minus(value(next)))
			expectPhase(t, l, state(nobody(2), numbers("1 2")), state(told("ba"), []api.Rat{next, whole(0)}))
			// It tells none, where a stronger one tells.
			l = []api.Con{con(strength+1, large, term(0, whole(1))), con(strength, whole(-3), term(0, whole(1)))}
			expectPhase(t, l, state(told("a-"), numbers("1")), state(told("-a"), numbers("3")))
		}
		// ErrForced is ahead, wherever it stands.
		for _, text := range []string{"required b = a > b, required c = 1, required c = 2", "required c = 1, required c = 2, required b = a > b", "required 0 = 0, required b = a > b, required 0 = 0, required 0 = 1", "required 0 = 1, weak b = a > b"} {
			l, outs := cons(text)
			_, number, _ := said(l, state(outs, numbers("1 2 3")))
			expectError(t, l, state(outs, []api.Rat{large, whole(1), whole(2)}), number, api.ErrForced)
			expectError(t, l, state(outs, []api.Rat{next, whole(1), whole(2)}), number, api.ErrForced)
		}
	}
	// The first along the plan, not by number.
	l, outs := cons("required d = c > d, required c = b > c, required b = 2*a > b, weak a = 9 > a")
	expectPhase(t, l, state(outs, numbers("1 2 3 4")), state(told("dcba"), numbers("9 18 18 18")))
	l[3].K = normal(minus(power(511, 3)))
	expectError(t, l, state(outs, numbers("1 2 3 4")), 2, api.ErrLarge)
}

// P15.1: values that are handed in may be written in any way, and may be Large
// where none is made of them.
func TestValuesThatAreHandedIn(t *testing.T) {
	for _, a := range roughNumbers() {
		norm := normal(value(a))
		expectPhase(t, nil, state(nil, []api.Rat{a, a, a}), state(nil, []api.Rat{norm, norm, norm}))
		l, outs := cons("weak a = 7, required c = b, stay d = 1")
		expectPhase(t, l, state(outs, []api.Rat{a, a, whole(8), a}), state(told("ab-"), []api.Rat{whole(7), whole(8), whole(8), norm}))
		expectPhase(t, l, state(told("acd"), []api.Rat{a, a, a, a}), state(told("acd"), []api.Rat{whole(7), norm, norm, whole(1)}))
	}
	for _, x := range largeNumbers() {
		for way := range 4 {
			large, as := x[0], rewritten(x[0], way)
			if way == 3 {
				as = large
			}
			expectPhase(t, nil, state(nil, []api.Rat{as, whole(1), as}), state(nil, []api.Rat{large, whole(1), large}))
			l, outs := cons("weak a = 7 > a, required b = c > b, weak d = 1, required d = 2 > d")
			expectPhase(t, l, state(outs, []api.Rat{as, as, whole(3), as, as}), state(told("ab-d"), []api.Rat{whole(7), whole(3), whole(3), whole(2), large}))
			expectError(t, l, state(outs, []api.Rat{as, as, as, as, as}), 1, api.ErrLarge)
		}
	}
}

// P15.1: each error stands ahead of those behind it.
func TestOrderOfErrors(t *testing.T) {
	l, outs := cons("required a = b > a, required a = b > a, required 0 = 1, required c = h > c")
	vals := append(numbers("1 2 3 4 5 6 7"), normal(power(600, 0)))
	expectArg(t, l, outs, nil)
	expectArg(t, l, outs, slices.Repeat(vals, 9))
	expectArg(t, l, outs[:3], vals)
	expectArg(t, l, outs, vals[:7])
	expectError(t, l, state(outs, vals), 1, api.ErrCycle)
	l[1] = con(0, whole(-5), term(0, whole(1)))
	expectArg(t, l, outs, vals)
	outs[1] = -1
	expectError(t, l, state(outs, vals), 2, api.ErrForced)
	l[2].K = whole(0)
	expectError(t, l, state(outs, vals), 3, api.ErrLarge)
	vals[7] = whole(8)
	expectPhase(t, l, state(outs, vals), state(told("ba-c"), numbers("5 5 8 4 5 6 7 8")))
}

// P15.1, P15.2: many constraints, choices and values, held against what the
// document says of them.
func TestRandomPhases(t *testing.T) {
	m := &maker{Rand: rand.New(rand.NewSource(151))}
	var k kinds
	for i := range 6000 {
		m.n, m.terms = 1+m.Intn(8), 1+m.Intn(4)
		l := m.forest(m.Intn(10))
		outs, vals := m.outs(l, i%11), m.values()
		k.expectSaid(t, l, state(outs, vals))
		if i%4 > 0 || len(l) == 0 {
			continue
		}
		broken := slices.Clone(outs)
		broken[m.Intn(len(l))] = m.Intn(m.n+2) - 1
		k.expectSaid(t, l, state(broken, vals))
		more := slices.Insert(l, m.Intn(len(l)), m.con(m.Perm(m.n)[:min(m.n, 2)]))
		k.expectSaid(t, more, state(append(outs, -1), vals))
		if bad := badCons(); i%12 == 0 {
			more[m.Intn(len(more))] = bad[m.Intn(len(bad))]
			k.expectSaid(t, more, state(append(outs, -1), vals))
		}
	}
	if k.arg < 600 || k.cycle < 300 || k.forced < 1000 || k.bare < 100 || k.large < 50 || k.whole < 3000 || k.silent < 3000 || k.kept < 3000 || k.moved < 200 {
		t.Error("too few of a kind:", k)
	}
}

// P15.2: all lists of two constraints of two variables, all choices.
func TestAllOfTwoVariables(t *testing.T) {
	var every []api.Con
	for _, equation := range []string{"0 = 0", "0 = 1", "a = 0", "b = 1", "a = b", "a + b = 3"} {
		for _, word := range words() {
			l, _ := cons(word + " " + equation)
			every = append(every, l[0])
		}
	}
	var k kinds
	for _, a := range every {
		for _, b := range every {
			for out := -1; out < 2; out++ {
				for other := -1; other < 2; other++ {
					k.expectSaid(t, []api.Con{a, b}, state([]int{out, other}, numbers("0 5")))
				}
			}
		}
	}
	if k.arg < 2000 || k.cycle < 500 || k.forced < 100 || k.bare < 100 || k.whole < 2000 || k.silent < 1000 || k.moved < 100 {
		t.Error("too few of a kind:", k)
	}
}

// P15.1, P15.2: many variables and constraints.
func TestManyVariables(t *testing.T) {
	m := &maker{Rand: rand.New(rand.NewSource(152))}
	var k kinds
	for i := range 24 {
		m.n, m.terms = []int{20, 40, 64}[i%3], 2+i%3
		l := m.forest(m.n + 2*i)
		for at := range l {
			if m.Intn(4) > 0 {
				l[at].Strength = 1 + m.Intn(3)
			}
		}
		vals := slices.Repeat(numbers("1 -2 1/3 0"), 16)[:m.n]
		k.expectSaid(t, l, state(m.outs(l, i%11), vals))
	}
	if k.whole < 15 || k.forced < 2 || k.moved < 50 {
		t.Error("too few of a kind:", k)
	}
}

// W1: what is great comes to an end.
func TestGreatThings(t *testing.T) {
	limbs := slices.Repeat([]uint32{most}, 3000)
	huge := ratOf(true, limbs, []uint32{1})
	l, outs := cons("required a = b > a, weak d = c > d")
	expectError(t, l, state(outs, []api.Rat{{}, huge, {}, {}}), 0, api.ErrLarge)
	expectPhase(t, l, state(outs, []api.Rat{huge, whole(1), whole(2), ratOf(true, limbs, limbs)}), state(outs, numbers("1 1 2 2")))
	l[0].K = ratOf(false, limbs, limbs)
	expectArg(t, l, outs, numbers("1 2 3 4"))
	expectArg(t, []api.Con{of(0, upTo(1<<16)...)}, []int{0}, make([]api.Rat, 64))
	expectArg(t, []api.Con{of(0, upTo(1<<16)...)}, []int{0}, make([]api.Rat, 1<<16))
	// A chain of all variables that is told from its end.
	var chain []api.Con
	for v := range 63 {
		chain = append(chain, con(0, whole(-1), term(v, whole(1)), term(v+1, whole(-1))))
	}
	chain = append(chain, con(3, whole(0), term(63, whole(1))))
	want := state(append(upTo(63), 63), nil)
	for v := range 64 {
		want.Vals = append(want.Vals, whole(63-v))
	}
	expectPhase(t, chain, state(nobody(64), slices.Repeat(numbers("7"), 64)), want)
	if err := api.ErrForced; !strings.Contains(err.Error(), "10") {
		t.Error("ErrForced is", err)
	}
}

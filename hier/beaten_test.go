package hier_test

import (
	"slices"
	"testing"

	"pantograph/api"
)

// P12.2, and the chapter's example
func TestBeaten(t *testing.T) {
	for _, x := range []struct {
		cons, before, val string
		want              int
	}{
		{"weak a = 5", "1", "1", 0},
		// No values; nothing is asked.
		{"", "", "", -1}, {"required 0 = 0", "", "", -1}, {"required 1 = 0", "", "", -1}, {"required a = 1", "", "", -1}, {"", "1 2", "", -1}, {"required a = 1, weak 1 = 0", "1 2", "", -1},
		{"", "1", "1", -1}, {"", "1 2", "1 2", -1}, {"", "-1/3", "-1/3", -1}, {"", "1", "2", 0}, {"", "1 2", "1 3", 1}, {"", "1 2", "3 3", 0}, {"", "1 2", "2 1", 0}, {"", "1/3", "-1/3", 0}, {"", "1/3", "333333/1000000", 0},
		// An earlier value that lacks is 0; those beyond the values are none.
		{"", "", "0", -1}, {"", "", "0 0 0", -1}, {"", "", "0 5", 1}, {"", "5", "5 0", -1}, {"", "5", "5 5", 1}, {"", "5", "0 0", 0}, {"", "5 7", "5", -1}, {"", "5 7", "7", 0}, {"", "5 7 9", "5 7", -1}, {"weak b = 0", "5", "5", -1}, {"weak a = b", "5", "5 0", 0}, {"weak a = b", "5", "5 5", -1},
		// All hold.
		{"required a = 5", "5", "5", -1}, {"required a = b, weak a = 5", "5 5", "5 5", -1}, {"required a = 1, strong b = 2, medium c = 3, weak d = 4", "1 2 3 4", "1 2 3 4", -1}, {"required a = 1, strong b = 2, medium c = 3, weak d = 4", "", "1 2 3 4", -1}, {"stay a = 1", "1", "1", -1}, {"stay a = 1", "9", "1", -1},
		// None holds.
		{"required a = 1, strong b = 2, medium c = 3, weak d = 4", "", "9 9 9 9", 0}, {"weak a = 1, medium b = 2, strong c = 3, required d = 4", "7 7 7 7", "9 9 9 9", 0}, {"required a = b", "1 2", "3 4", 0}, {"required a + b = 1, required a + b = 2", "", "5 5", 0}, {"required 1 = 0, weak 2 = 0", "1", "1", -1},
		// It could beside those that hold and are not weaker.
		{"required a + b = 10, weak a = 4", "", "10 0", 1}, {"required a + b = 10, strong c = 1, weak b = 4", "", "10 0 1", 2}, {"required a = b, medium b = c, weak c = 7", "", "0 0 0", 2}, {"required a = 3, weak a + b = 10", "", "3", -1}, {"required a = 3, weak a + b = 10", "", "3 0", 1}, {"strong a = 3, required a + b = 10", "", "3 0", 1}, {"required a + b + c = 6, required a = b, weak c = 1", "", "2 2 2", 2},
		// It could not, because of a stronger one that holds.
		{"required a = 1, weak a = 5", "1", "1", -1}, {"weak a = 5, required a = 1", "1", "1", -1}, {"required a = 1, strong a = 5", "", "1", -1}, {"strong a = 1, medium a = 5", "", "1", -1}, {"medium a = 1, weak a = 5", "", "1", -1}, {"weak a = 1, stay a = 5", "", "1", -1}, {"required a + b = 3, weak 2*a + 2*b = 7", "2 1", "2 1", -1}, {"required 2*a = 3*b, weak a/3 - b/2 = 1/6", "3 2", "3 2", -1},
		// Because of one that is as strong.
		{"weak a = 1, weak a = 5", "", "1", -1}, {"weak a = 1, weak a = 5", "", "5", -1}, {"required a = 1, required a = 5", "", "5", -1}, {"strong a = 1, strong a = 5", "", "1", -1}, {"medium a = 5, medium a = 1", "", "1", -1}, {"stay a = 1, stay a = 5", "5", "1", -1},
		// Because of several at once, of which none would do, nor all but one.
		{"required a + b = 3, required a - b = 1, weak a = 5", "", "2 1", -1}, {"required a + b = 3, strong a - b = 1, medium a = 5", "", "2 1", -1}, {"medium a = 5, strong a - b = 1, required a + b = 3", "", "2 1", -1}, {"required a + b = 3, weak a - b = 1, weak b = 5", "", "2 1", -1}, {"required a = b, strong b = c, medium c = d, weak a = d + 1", "", "", -1}, {"required a = b, strong b = c, medium c = d, weak a = d + 1", "7 7 7 7", "7 7 7 7", -1}, {"required a = b, strong b = c, medium c = d + 1, weak a = d + 1", "7 7 7 7", "7 7 7 7", 2}, {"required a = b, strong b = c + 1, medium c = d, weak a = d + 1", "7 7 7 7", "7 7 7 7", 1},
		{"required a + b + c = 6, strong a - b = 0, medium b - c = 0, weak a + c = 5", "", "2 2 2", -1}, {"required a + b + c = 6, strong a - b = 0, weak a + c = 5, medium b - c = 0", "", "2 2 2", -1}, {"required a + b + c = 6, strong a - b = 0, weak a + c = 5", "", "2 2 2", 2}, {"required a + b + c = 6, strong a + c = 5, weak b - c = 0, weak a - b = 0", "", "2 2 2", 1},
		// It could but for a weaker one that holds.
		{"weak a = 1, strong a = 5", "", "1", 1}, {"strong a = 5, weak a = 1", "", "1", 0}, {"required a = 5, strong a = 1", "1", "1", 0}, {"strong a = 5, medium a = 1", "1", "1", 0}, {"medium a = 5, weak a = 1", "1", "1", 0}, {"weak a = 5, stay a = 1", "1", "1", 0}, {"required a + b = 3, weak a - b = 1, strong a = 5", "", "2 1", 2}, {"required a + b = 3, medium a - b = 1, medium a = 5", "", "2 1", -1}, {"weak a + b = 3, strong a - b = 1, medium a = 5", "", "2 1", 2}, {"medium a = 5", "1 1", "1 1", 0},
		// Two could, and the first is told; those that do not hold do not count
		// beside one, also if they are stronger.
		{"weak a = 5, required b = 1", "", "0 0", 0}, {"weak a = 5, required a = 1", "", "0", 0}, {"required a = 1, weak a = 5", "", "0", 0}, {"weak a = 5, medium a = 4, strong a = 3, required a = 2", "", "0", 0}, {"weak a = 1, weak a = 2, required a = 3", "", "1", 2}, {"weak a = 1, weak a = 2, medium b = 1, required a = 3", "", "1 0", 2}, {"required a = 1, weak a = 5, weak b = 5, strong b = 2", "", "1 0", 2}, {"required 1 = 0, weak a = 5", "", "1", 1}, {"required a = 1, required a = 2, strong a = 3", "", "1", -1}, {"required a = 1, required a = 2, weak a = 3", "", "3", 0}, {"strong a + b = 1, strong a = 1, weak b = 5", "", "1 3", 0},
		// A stay that is told, behind all of l.
		{"required a = b", "1 1", "2 2", 1}, {"required a = b", "1 2", "3 3", 1}, {"required a = b, required c = 1", "1 1 5", "2 2 1", 2}, {"required a + b = 10", "10 0", "7 3", 1}, {"required a + b = 10, strong b = 3", "10 0", "7 3", -1}, {"weak a = 5", "1", "5 3", 2}, {"weak a = 5, weak a = 6", "", "5 3", 3}, {"required 0 = 0, weak b = 2", "1", "5 2", 2}, {"required 1 = 0, weak b = 2", "1 0 9", "1 2 8", 4}, {"weak b = 2, weak b = 3", "1", "1 2 8", 4},
		// A stay that could not, because of a constraint or of a stay that holds.
		{"weak a = 5", "1", "5", -1}, {"required a = b", "1 2", "1 1", -1}, {"required a = b", "1 2", "2 2", -1}, {"required a + b = 10", "1 2", "1 9", -1}, {"required a + b = 10", "1 2", "8 2", -1}, {"required a + b = 10", "1 2", "5 5", 1}, {"stay a = b", "1 2", "1 1", -1}, {"stay a = b", "1 2", "2 2", -1}, {"strong a + b = c", "1 2 4", "1 2 3", -1}, {"strong a + b = c", "1 2 4", "1 3 4", -1}, {"strong a + b = c", "1 2 4", "2 2 4", -1}, {"strong a + b = c", "1 2 4", "2 1 3", 1}, {"strong a + b = c", "1 2 4", "1 1 2", 2}, {"strong a + b = c, required a = 1", "1 2 4", "1 1 2", 3},
		// Of Strength Stay, beside the stays.
		{"stay a = 5", "1", "1", -1}, {"stay a = 5", "1", "5", -1}, {"stay a = 5", "1", "2", 0}, {"weak a = 5", "1", "2", 0}, {"stay a + b = 5", "1 1", "1 1", -1}, {"stay a + b = 5", "1 1", "1 4", -1}, {"stay a + b = 5", "1 1", "2 2", 0}, {"weak a + b = 5", "1 1", "1 1", 0}, {"stay a = 5, weak a = 5", "1", "1", 1},
		// Without Terms.
		{"required 0 = 0", "1", "1", -1}, {"required 0 = 0", "1", "2", 1}, {"required 1 = 0", "1", "1", -1}, {"stay 1 = 0", "1", "1", -1}, {"weak 1/3 = 0", "1", "1", -1}, {"required 1 = 0", "1", "2", 1}, {"required 1 = 0, strong 2 = 0, weak a = 5", "1", "1", 2}, {"required 0 = 0, weak a = 5", "1", "1", 1}, {"required a = 1, required 1 = 0, weak a = 5", "", "1", -1},
		// One that stands twice.
		{"weak a = 5, weak a = 5", "", "0", 0}, {"weak a = 5, weak a = 5", "", "5", -1}, {"strong a = 1, weak a = 5, weak a = 5", "", "1", -1}, {"strong a = 5, weak a = 5", "", "0", 0}, {"required a + b = 3, required a + b = 3, weak a = 5", "", "1 2", 2}, {"required a + b = 3, required a + b = 3, weak a + b = 4", "1 2", "1 2", -1}, {"required 2*a + 2*b = 6, required a + b = 3, weak -a - b = -4", "1 2", "1 2", -1}, {"weak a = 1, weak a = 1, strong a = 5, strong a = 5", "", "1", 2}, {"stay a = 1, stay a = 1", "1", "2", 0},
		// Values that are fractions.
		{"weak 3*a = 1", "", "1/3", -1}, {"weak 3*a = 1", "", "3333/10000", 0}, {"required a/2 + b/3 = 5/6, strong a/5 - b/7 = 2/35, weak a = 1", "", "1 1", -1}, {"required a/2 + b/3 = 5/6, strong a/5 - b/7 = 2/35, weak a = 2", "", "1 1", -1}, {"required a/2 + b/3 = 5/6, weak a = 1/7", "", "1 1", 1},
	} {
		l, before, val := cons(x.cons), numbers(x.before), numbers(x.val)
		expectBeaten(t, l, before, val, x.want)
		expectBeaten(t, l, append(slices.Clone(before), make([]api.Rat, max(len(val)-len(before), 0))...), val, x.want)
		expectBeaten(t, l, append(slices.Clone(before), numbers("0 0 0")...), val, x.want)
		expectBeaten(t, l, allRewritten(before), allRewritten(val), x.want)
		expectSaid(t, l, before, val)
	}
}

// P12.2: nil lists and empty ones.
func TestNothing(t *testing.T) {
	for _, l := range [][]api.Con{nil, {}, make([]api.Con, 0, 3), cons("required a = 1, required 1 = 0")[:0]} {
		for _, before := range [][]api.Rat{nil, {}, make([]api.Rat, 0, 3), numbers("3 4")[:0]} {
			for _, val := range [][]api.Rat{nil, {}, numbers("0 0 0"), make([]api.Rat, 3), numbers("3 4")[:0]} {
				expectBeaten(t, l, before, val, -1)
				expectLevels(t, l, val, 0, 0, 0, 0)
			}
			expectBeaten(t, l, before, numbers("0 3"), 1)
			expectLevels(t, l, numbers("0 3"), 0, 0, 0, 0)
		}
		expectBeaten(t, l, numbers("3 4"), nil, -1)
		expectBeaten(t, l, numbers("3 4"), []api.Rat{}, -1)
		expectBeaten(t, l, numbers("3 4"), numbers("3 4"), -1)
	}
	for _, val := range [][]api.Rat{nil, {}, numbers("3 4")[:0]} {
		expectBeaten(t, cons("required 1 = 0, weak 0 = 0, strong a = 1, required a = b"), numbers("1 2"), val, -1)
		expectLevels(t, cons("required 1 = 0, weak 0 = 0, strong a = 1, required a = b"), val, 1, 0, 0, 0)
	}
}

// P12.2: of each two Strengths, what holds is in the way of what does not,
// unless it is weaker.
func TestEachTwoStrengths(t *testing.T) {
	for holding := range 5 {
		for failing := range 5 {
			a, b := is(holding, 0, 1), is(failing, 0, 5)
			want := -1
			if failing < holding {
				want = 0
			}
			expectBeaten(t, []api.Con{b, a}, nil, numbers("1"), want)
			expectBeaten(t, []api.Con{b, a, a}, numbers("1"), numbers("1"), want)
			if failing < holding {
				want = 1
			}
			if failing == 4 && holding == 4 {
				expectBeaten(t, []api.Con{a, b}, numbers("5"), numbers("1"), -1)
			}
			expectBeaten(t, []api.Con{a, b}, nil, numbers("1"), want)
			// The stay of b is not in the way of what a is to be.
			expectBeaten(t, []api.Con{a, b}, numbers("1 7"), numbers("1 7"), want)
			// Where neither holds the first is told, in whatever order.
			expectBeaten(t, []api.Con{a, b}, numbers("9"), numbers("3"), 0)
			expectBeaten(t, []api.Con{b, a}, numbers("9"), numbers("3"), 0)
			// Both hold: the stay can't.
			expectBeaten(t, []api.Con{a, is(failing, 0, 1)}, numbers("9"), numbers("1"), -1)
		}
	}
}

// chain are values that follow one another, all of them 0 or all of them what
// the first one is to be.
func chain(n, first int) []api.Con {
	var l []api.Con
	for v := range n - 1 {
		l = append(l, con(v%4, whole(0), row(v, 1, v+1, -1)...))
	}
	return append(l, is(3, 0, first))
}

// P12.2: of 64 values, and of more.
func TestNumbersOfValues(t *testing.T) {
	for _, n := range []int{1, 2, 3, 31, 62, 63, 64, 65, 66, 128, 1000, 1 << 16} {
		told := func(number int) int {
			if n > 64 {
				return -1
			}
			return number
		}
		zeros, fives := make([]api.Rat, n), slices.Repeat(numbers("5"), n)
		expectBeaten(t, chain(n, 5), zeros, zeros, told(n-1))
		expectBeaten(t, chain(n, 5), nil, zeros, told(n-1))
		expectBeaten(t, chain(n, 5), nil, fives, -1)
		expectBeaten(t, chain(n, 5), fives, fives, -1)
		expectBeaten(t, chain(n, 5)[:n-1], zeros, fives, told(n-1))
		if n > 1 {
			expectBeaten(t, chain(n, 5)[:n-1], append(fives[:n-1:n-1], whole(0)), fives, -1)
		}
		expectBeaten(t, nil, nil, fives, told(0))
		expectBeaten(t, nil, fives[:n-1], fives, told(n-1))
		// Earlier values that are more than the values, and more than 64.
		expectBeaten(t, nil, slices.Concat(zeros, fives), zeros, -1)
		expectBeaten(t, nil, slices.Concat(zeros, fives, fives[:1], zeros), fives, told(0))
		expectBeaten(t, nil, slices.Concat(fives[:n-1], zeros, make([]api.Rat, 64)), fives, told(n-1))
		expectBeaten(t, []api.Con{is(3, 0, 5)}, make([]api.Rat, n+64), zeros, told(0))
		// Of the last value, of one beyond, and of none.
		last := append(zeros[:n-1:n-1], whole(5))
		expectBeaten(t, []api.Con{is(3, n-1, 5)}, nil, zeros, told(0))
		expectBeaten(t, []api.Con{is(3, n-1, 5)}, nil, last, -1)
		expectBeaten(t, []api.Con{is(3, n, 5), is(3, n+1, 5)}, nil, zeros, -1)
		expectBeaten(t, []api.Con{is(3, n, 5), is(3, n-1, 5)}, nil, zeros, told(1))
		expectBeaten(t, []api.Con{is(0, n, 5), is(3, n-1, 5)}, nil, last, -1)
		expectBeaten(t, []api.Con{con(0, whole(0), row(n-1, 1, n, -1)...), is(3, n-1, 5)}, nil, zeros, told(1))
		expectBeaten(t, []api.Con{con(0, whole(-1), row(0, 1, n, 1)...)}, nil, zeros, -1)
		expectBeaten(t, nil, nil, last, told(n-1))
		expectLevels(t, []api.Con{is(3, n-1, 5), is(3, n, 5), is(0, n-1, 6), is(1, n+1, 1), is(1, n-1, 0)}, zeros, 1, 0, 0, 1)
		expectLevels(t, []api.Con{is(3, n-1, 5), is(3, n, 5), is(0, n-1, 6), is(1, n+1, 1), is(1, n-1, 0)}, last, 1, 1, 0, 0)
	}
}

// P12.2: numbers are exact, however long.
func TestLongNumbers(t *testing.T) {
	long := ratOf(true, slices.Repeat([]uint32{most}, 30), []uint32{0, 0, 1})
	next := long
	next.N = append([]uint32{most - 2}, long.N[1:]...)
	for _, strength := range []int{0, 3, 4} {
		k := long
		k.Neg = false
		c := con(strength, k, row(0, 1)...)
		expectBeaten(t, []api.Con{c}, []api.Rat{long}, []api.Rat{long}, -1)
		expectBeaten(t, []api.Con{c}, []api.Rat{next}, []api.Rat{long}, -1)
		expectBeaten(t, []api.Con{c}, []api.Rat{long}, []api.Rat{next}, 0)
		expectBeaten(t, nil, []api.Rat{long}, []api.Rat{next}, 0)
		expectBeaten(t, []api.Con{c, con(strength, next, row(0, -1)...)}, nil, []api.Rat{long}, -1)
	}
	limbs := slices.Repeat([]uint32{most}, 2000)
	huge := ratOf(false, limbs, []uint32{1})
	expectBeaten(t, []api.Con{con(3, huge, row(0, -1)...)}, []api.Rat{ratOf(false, limbs, limbs)}, []api.Rat{huge}, -1)
	expectBeaten(t, []api.Con{con(3, huge, row(0, 1)...)}, []api.Rat{ratOf(false, limbs, limbs)}, []api.Rat{huge}, 0)
	expectBeaten(t, nil, []api.Rat{ratOf(false, limbs, limbs)}, numbers("1"), -1)
}

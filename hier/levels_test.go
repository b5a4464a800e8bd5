package hier_test

import (
	"slices"
	"testing"

	"pantograph/api"
)

// P12.1
func TestLevels(t *testing.T) {
	for _, x := range []struct {
		cons, val string
		want      [4]int
	}{
		{"", "", [4]int{}}, {"", "1 2", [4]int{}}, {"weak a = 5", "1", [4]int{0, 0, 0, 1}}, {"weak a = 5", "5", [4]int{}}, {"weak a = 5", "", [4]int{}}, {"weak b = 5", "1", [4]int{}},
		{"required a = 5", "1", [4]int{1, 0, 0, 0}}, {"strong a = 5", "1", [4]int{0, 1, 0, 0}}, {"medium a = 5", "1", [4]int{0, 0, 1, 0}}, {"stay a = 5", "1", [4]int{}}, {"stay 1 = 0", "1", [4]int{}},
		{"weak a = 5, stay a = 5, required a = 5, strong a = 5, medium a = 5", "1", [4]int{1, 1, 1, 1}}, {"weak a = 5, stay a = 5, required a = 5, strong a = 5, medium a = 5", "5", [4]int{}},
		{"weak a = 5, weak a = 6, weak a = 7", "6", [4]int{0, 0, 0, 2}}, {"weak a = 5, weak a = 5", "6", [4]int{0, 0, 0, 2}}, {"required a = 1, required a = 2, strong b = 1, strong b = 2, strong b = 3, weak a = b", "1 2", [4]int{1, 2, 0, 1}}, {"medium a = 1, required b = 1, medium b = 2, medium c = 3, required c = 4", "1 2 3", [4]int{2, 0, 0, 0}},
		{"required 1 = 0", "", [4]int{1, 0, 0, 0}}, {"required 0 = 0", "", [4]int{}}, {"weak 1/3 = 0, weak 0 = 0, medium -2 = 0", "1", [4]int{0, 0, 1, 1}},
		{"strong a + b = 3", "1 2", [4]int{}}, {"strong a + b = 3", "1 3", [4]int{0, 1, 0, 0}}, {"strong a + b = 3", "3", [4]int{}}, {"strong a + b = 3", "1", [4]int{}}, {"strong a/3 + b/6 = 1/2", "1 1", [4]int{}}, {"strong a/3 + b/6 = 1/2", "1 1/2", [4]int{0, 1, 0, 0}}, {"weak 3*a = 1", "1/3", [4]int{}}, {"weak 3*a = 1", "3333/10000", [4]int{0, 0, 0, 1}},
	} {
		l, val := cons(x.cons), numbers(x.val)
		expectLevels(t, l, val, x.want[:]...)
		expectLevels(t, l, allRewritten(val), x.want[:]...)
		expectLevels(t, slices.Concat(l, l, cons("stay a = 77")), val, 2*x.want[0], 2*x.want[1], 2*x.want[2], 2*x.want[3])
		slices.Reverse(l)
		expectLevels(t, l, val, x.want[:]...)
	}
	l := slices.Concat(slices.Repeat(cons("weak a = 5"), 3000), slices.Repeat(cons("strong a = 1, medium a = 2"), 2000))
	expectLevels(t, l, numbers("1"), 0, 0, 2000, 3000)
	expectLevels(t, l, numbers("5"), 0, 2000, 2000, 0)
	val := make([]api.Rat, 1<<16+1)
	val[1<<16] = whole(5)
	expectLevels(t, []api.Con{is(0, 1<<16, 5), is(1, 1<<16, 4), is(2, 1<<16+1, 4)}, val, 0, 1, 0, 0)
}

// badCons are sums that may not be of n variables. Where all values are 1,
// some of them would hold, and say what variable 0 is, and some would not.
func badCons(n int) []api.Con {
	var list []api.Con
	for _, k := range []int{0, -1, -2, -3} {
		for _, terms := range [][]api.Term{
			row(1, 1, 0, 1), row(0, 1, 0, 1), row(0, 1, 0, -1), row(0, 1, 2, 1, 1, 1), row(0, 1, 1, 1, 1, -1), row(0, 1, 2, 1, 2, 1),
			row(n, 1), row(0, 1, n, 1), row(n, 1, 0, 1), row(n+1, 1), row(0, 1, n+1, 1), row(n+1, 1, 0, 1), row(0, 1, 1<<32+n, 1), row(1<<32, 1), row(highest, 1), row(0, 1, highest, 1), row(max(n, 64), 1), row(0, 1, max(n, 1000), -1),
			row(-1, 1), row(-1, 1, 0, 1), row(0, 1, -1, 1), row(-2, 1), row(-64, 1, 0, 1), row(-1<<32, 1), row(lowest, 1), row(lowest, 1, 0, 1), row(0, 1, lowest, 1),
			{term(0, whole(0))}, {term(0, whole(1)), term(1, whole(0))}, {term(0, whole(0)), term(1, whole(1))}, {term(0, whole(1)), term(1, whole(0)), term(2, whole(1))},
		} {
			list = append(list, con(0, whole(k), terms...), con(3, whole(k), terms...))
		}
		for _, strength := range []int{-1, -2, -4, -1 << 32, lowest, 5, 6, 8, 256, 1 << 32, 1<<32 + 3, highest} {
			list = append(list, con(strength, whole(k), row(0, 1)...), con(strength, whole(k)), con(strength, whole(k), row(0, 1, 1, 1)...))
		}
	}
	for _, a := range roughNumbers() {
		minus := normal(value(a))
		minus.Neg = !minus.Neg && len(minus.N) > 0
		list = append(list, con(0, minus, term(0, a)), con(3, whole(7), term(0, a)), con(1, minus, term(0, whole(1)), term(1, a)), con(2, minus, term(0, a), term(1, whole(1))))
		if !alike(a, whole(0)) {
			list = append(list, con(0, a), con(1, a, row(0, 7)...), con(2, a, row(0, 1, 1, -1)...))
			if len(minus.N) > 0 {
				list = append(list, con(0, a, term(0, minus)), con(4, a, term(0, minus)))
			}
		}
	}
	return list
}

// P12.1, P12.2: sums that may not be always hold, and are in nobody's way, but
// they are counted in the number that Beaten tells.
func TestSumsThatMayNotBe(t *testing.T) {
	for _, text := range []string{"", "weak a = 5", "weak a = 1", "required a = 1", "required a = 1, weak a = 5", "weak a = 5, weak a = 1, required a = 2", "required b = 1, weak a = 5", "strong 1 = 0", "required 0 = 0, weak a = 5", "stay a = 5"} {
		l := cons(text)
		for _, n := range []int{0, 1, 2, 3, 64} {
			ones := slices.Repeat(numbers("1"), n)
			for _, before := range [][]api.Rat{ones, nil, numbers("5")} {
				s := expectSaid(t, l, before, ones)
				told, levels := s.beaten(), levelsOf(l, s)
				for _, bad := range badCons(n) {
					for at := range len(l) + 1 {
						want := told
						if want >= at {
							want++
						}
						with := slices.Insert(slices.Clone(l), at, bad)
						expectBeaten(t, with, before, ones, want)
						expectLevels(t, with, ones, levels...)
					}
				}
			}
		}
	}
	all := badCons(3)
	ones := numbers("1 1 1")
	expectBeaten(t, all, ones, ones, -1)
	expectBeaten(t, all, nil, ones, len(all))
	expectBeaten(t, all, numbers("1 1"), ones, len(all)+2)
	expectBeaten(t, slices.Concat(all, cons("weak a = 5"), all), ones, ones, len(all))
	expectBeaten(t, slices.Concat(all, cons("required a = 1"), all, cons("weak a = 5"), all, cons("weak b = 5"), all), ones, ones, 3*len(all)+2)
	expectLevels(t, slices.Concat(all, cons("required a = 1"), all, cons("weak a = 5"), all, cons("weak b = 5"), all), ones, 0, 0, 0, 2)
	// Of more values than Beaten takes.
	for _, n := range []int{65, 100} {
		val := slices.Repeat(numbers("1"), n)
		expectBeaten(t, badCons(n), nil, val, -1)
		expectLevels(t, append(badCons(n), is(2, n-1, 5)), val, 0, 0, 1, 0)
	}
}

// P12.1, P12.2: values and earlier values that are not normal are taken as
// Norm makes them.
func TestNumbersThatAreNotNormal(t *testing.T) {
	for _, a := range roughNumbers() {
		norm := normal(value(a))
		minus := norm
		minus.Neg = !norm.Neg && len(norm.N) > 0
		same, other := con(1, minus, row(0, 1)...), is(1, 0, 77)
		for _, val := range []api.Rat{a, norm} {
			expectLevels(t, []api.Con{same, other}, []api.Rat{val}, 0, 1, 0, 0)
			for _, before := range []api.Rat{a, norm} {
				expectBeaten(t, nil, []api.Rat{before}, []api.Rat{val}, -1)
				expectBeaten(t, []api.Con{same}, []api.Rat{before}, []api.Rat{val}, -1)
				expectBeaten(t, []api.Con{same, other}, []api.Rat{before}, []api.Rat{val}, -1)
				expectBeaten(t, []api.Con{con(4, whole(-77), row(0, 1)...)}, []api.Rat{before}, []api.Rat{val}, -1)
				expectBeaten(t, []api.Con{con(3, whole(-77), row(0, 1)...)}, []api.Rat{before}, []api.Rat{val}, 0)
			}
			expectBeaten(t, nil, numbers("77"), []api.Rat{val}, 0)
			expectBeaten(t, []api.Con{same}, numbers("77"), []api.Rat{val}, -1)
		}
		expectBeaten(t, nil, []api.Rat{a}, numbers("77"), 0)
		expectBeaten(t, []api.Con{same}, []api.Rat{a}, numbers("77"), 0)
		expectBeaten(t, []api.Con{other}, []api.Rat{a}, numbers("77"), -1)
		expectBeaten(t, cons("required a = b"), []api.Rat{a, a}, numbers("77 77"), 1)
		expectBeaten(t, cons("required a = b"), []api.Rat{a, whole(77)}, numbers("77 77"), -1)
	}
}

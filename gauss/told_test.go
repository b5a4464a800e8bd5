package gauss_test

import (
	"testing"

	"pantograph/api"
	"pantograph/gauss"
)

// P10.2
func TestImplies(t *testing.T) {
	for _, x := range []struct {
		sums, yes, no string
	}{
		{"", "0", "1, -1/2, a, a - 1, a + b, h"},
		{"0", "0", "1, a"},
		{"a", "0, a, 2*a, -a/3", "1, a - 1, b, a + b, a - b"},
		// One of them, multiples of it, and what differs in K alone.
		{"a - 1", "0, a - 1, 1 - a, 2*a - 2, a/3 - 1/3", "1, a, a + 1, a - 2, 2*a - 1, a - b, b - 1, a - 0.999"},
		{"a + b - 3", "a + b - 3, 3 - a - b, a/3 + b/3 - 1", "a + b, a + b + 3, a + b - 2, a - 3, b - 3, a - b - 3, a + 2*b - 3, 2*a + b - 3, a + b + c - 3"},
		{"a, b", "0, a, b, a + b, a - b, 7*a - b/9", "1, c, a + b + c, a - 1, a + b - 1"},
		{"a - 1, b - 2", "a - 1, b - 2, a + b - 3, a - b + 1, 2*a - b, b - 2*a, 10*a + b - 12", "a - 2, b - 1, a + b, a + b - 4, a - b - 1, a + c - 1, c"},
		// Put together of several.
		{"a + b - 3, a - b - 1", "a - 2, b - 1, a + b - 3, a - b - 1, 2*a - 4, 5*a + 7*b - 17, a/2 - b", "a - 1, b - 2, a, b, a + b, a - b, 5*a + 7*b - 16, c, a - 2 + c"},
		{"a - b, b - c, c - d", "a - d, a - c, b - d, a + b - c - d, 3*a - b - c - d, d - a", "a, d, a - d - 1, a + d, a - e, a - b - 1, a + b + c + d"},
		{"a + b + c - 6, a - b + 1, c - b - 1", "a - 1, b - 2, c - 3, a + c - 4, a + 2*b + 3*c - 14", "a - 2, b - 1, c, a + b + c, a + 2*b + 3*c - 13"},
		{"a/2 + b/3 - 1, a/3 + b/2 - 1", "a - 6/5, b - 6/5, a - b, a + b - 12/5", "a - 1.2001, b - 1, a + b - 2.3999, a + b + c - 12/5"},
		{"b - c, f - 1", "b - c, f - 1, b - c + f - 1, c - b + 2*f - 2", "a, b, c, a - b, b - c + f, f, b + c"},
		{"a - b, a - b, 2*a - 2*b, b - a", "a - b, 0", "a, b, a - b - 1, a - 2*b"},
		{"a + b, b + c, a + c", "a, b, c, a + b + c, a - c", "1, d, a + d, a - 1"},
		// What is not consistent.
		{"1", "0, 1, a, a - 1, a + b + h - 9", ""},
		{"a - 1, a - 2", "0, 1, a, a - 1, a - 3, b, b - 7, a + b + c", ""},
		{"a - b, b - c, a - c - 1", "0, 1, a, a - b, a - b - 1, d", ""},
	} {
		l := sums(x.sums)
		for _, n := range []int{8, 64, 65, highest} {
			for _, c := range sums(x.yes) {
				expectImplies(t, l, c, n, true)
			}
			for _, c := range sums(x.no) {
				expectImplies(t, l, c, n, false)
			}
		}
	}
}

// P10.2: a c that may not be is implied by what is not consistent, and by
// nothing else.
func TestImpliesOfSumsThatMayNotBe(t *testing.T) {
	for _, c := range badSums() {
		for _, n := range []int{lowest, 0, 1, 3, 64, 65, highest} {
			for _, text := range []string{"", "0", "a - 1", "a - 2", "a, b, c", "a + b - 3, a - b - 1"} {
				expectImplies(t, sums(text), c, n, false)
			}
			expectImplies(t, []api.Con{c}, c, n, false)
			expectImplies(t, sums("1"), c, n, true)
			expectImplies(t, append(sums("1"), c), c, n, true)
			expectImplies(t, sums("a - 1, a - 2"), c, n, n >= 1)
			expectImplies(t, sums("a - b, b - c, a - c - 1"), c, n, n >= 3)
		}
	}
	// Of another n it may be.
	for _, n := range []int{-1, 0, 1, 2} {
		expectImplies(t, sums("a - 1, c - 2"), sum("c - 2"), n, false)
		expectImplies(t, sums("a - 1, c - 2, c - 3"), sum("c - 2"), n, false)
		expectImplies(t, sums("a - 1, c - 2"), sum("a + c - 3"), n, false)
	}
	expectImplies(t, sums("a - 1, c - 2"), sum("c - 2"), 3, true)
	expectImplies(t, sums("c - 2, c - 3"), sum("c - 7"), 3, true)
	expectImplies(t, sums("c - 2, c - 3"), sum("a"), 2, false)
}

// P10.2
func TestFixed(t *testing.T) {
	for _, x := range []struct {
		sums, v, want string
	}{
		{"", "a", "free"}, {"0", "a", "free"}, {"1", "a", "free"}, {"b - 1", "a", "free"}, {"b - 1", "c", "free"}, {"b - 1", "b", "1"},
		{"a", "a", "0"}, {"a - 5", "a", "5"}, {"a + 5", "a", "-5"}, {"5 - a", "a", "5"}, {"2*a - 3", "a", "3/2"}, {"-2*a - 3", "a", "-3/2"}, {"a/3 - 2/7", "a", "6/7"}, {"6*a - 4", "a", "2/3"}, {"h - 9", "h", "9"}, {"0 - h/3", "h", "0"},
		{"a - 5, a - 5", "a", "5"}, {"a - 5, 2*a - 10", "a", "5"}, {"a - 5, a - 6", "a", "free"}, {"a - 5, b - 1, b - 2", "a", "free"}, {"a - 5, b - 1, b - 2", "b", "free"}, {"a - 5, 1", "a", "free"}, {"1, a - 5", "a", "free"}, {"a - 5, 0", "a", "5"},
		// By several together.
		{"a + b - 3, a - b - 1", "a", "2"}, {"a + b - 3, a - b - 1", "b", "1"}, {"a + b - 3, a - b - 1", "c", "free"}, {"a + b - 3, a - b - 1, a - 2", "a", "2"}, {"a + b - 3, a - b - 1, a - 3", "a", "free"}, {"a + b - 3, a - b - 1, b + c", "c", "-1"},
		{"a - b, b - c, c - 4", "a", "4"}, {"a - b, b - c, c - 4", "b", "4"}, {"a - b, b - c, a - 4", "c", "4"}, {"a - b, b - c, b - 4", "a", "4"}, {"a - b, b - c", "a", "free"}, {"a - b, b - c", "c", "free"}, {"a - b, b - c, c - d", "d", "free"},
		{"a + b, b + c, a + c - 2", "a", "1"}, {"a + b, b + c, a + c - 2", "b", "-1"}, {"a + b, b + c, a + c - 2", "c", "1"}, {"a/2 + b/3 - 1, a/3 + b/2 - 1", "b", "6/5"}, {"a - 2*b, b - 3*c, c - 5*d, d - 1", "a", "30"}, {"2*a - b, 3*b - c, 5*c - d, d - 1", "a", "1/30"},
		// Free, or another one is free.
		{"a + b - 3", "a", "free"}, {"a + b - 3", "b", "free"}, {"a + b - 3", "c", "free"}, {"a + b - 3, c - 1", "c", "1"}, {"a + b - 3, c - 1", "a", "free"}, {"a + b - 3, b + c - 2", "a", "free"}, {"a + b - 3, b + c - 2", "c", "free"},
		{"a + b + c - 1, a + b", "c", "1"}, {"a + b + c - 1, a + b", "a", "free"}, {"a + b + c - 1, a + b", "b", "free"}, {"a + b + c - 1, b + c", "a", "1"}, {"a + b + c - 1, b + c", "b", "free"}, {"a + b + c - 1, a + c", "b", "1"}, {"a + b + c - 1, a + c", "a", "free"}, {"a + b + c - 1, a + c", "c", "free"},
		{"a - b + c, a - b - c - 1", "c", "-1/2"}, {"a - b + c, a - b - c - 1", "a", "free"}, {"a + b, 2*a + 2*b", "a", "free"}, {"a + b - c, c - d, a + b - d", "a", "free"}, {"a + b - c, c - d, a + b - d - 1", "a", "free"},
		{"a - e - 1, b - e - 1, a + b - 4", "e", "1"}, {"a - e - 1, b - e - 1, a + b - 4", "b", "2"}, {"a - e - 1, b - e - 1, a - b", "b", "free"}, {"e - h, h - 1/2", "e", "1/2"}, {"e - h, e - 1/2", "h", "1/2"},
		{"a - b, b - c, a - c - 1", "a", "free"}, {"a - b, b - c, a - c - 1, d - 1", "d", "free"},
	} {
		l := sums(x.sums)
		for _, n := range []int{8, 64, 65, highest} {
			if got := inWords(gauss.Fixed(l, place(x.v), n)); got != x.want {
				t.Errorf("Fixed of %q by %q is %q, not %q", x.v, x.sums, got, x.want)
			}
		}
	}
}

// P10.2: v is a variable.
func TestFixedOfNoVariable(t *testing.T) {
	l := sums("a - 1, b - 2, c - 3, d - 4")
	for _, n := range []int{lowest, -1, 0, 1, 2, 3, 4} {
		for v, want := range []int{1, 2, 3, 4} {
			if v < n {
				expectFixed(t, l, v, n, whole(want))
			} else {
				expectFree(t, l, v, n)
			}
		}
		for _, v := range []int{lowest, -1 << 32, -65, -64, -4, -3, -2, -1, 4, 5, 64, 65, 1 << 32, highest, n, max(n, 0)} {
			if v < 0 || v >= n {
				expectFree(t, l, v, n)
			}
		}
	}
	var all []api.Con
	for v := -2; v < 70; v++ {
		all = append(all, con(0, whole(-v), row(v, 1)...))
	}
	for _, n := range []int{64, 65, 100, highest} {
		for _, v := range []int{lowest, -2, -1, 64, 65, 66, 69, 70, 99, 100, highest - 1, highest} {
			expectFree(t, all, v, n)
		}
		expectFixed(t, all, 0, n, whole(0))
		expectFixed(t, all, 63, n, whole(63))
	}
}

package graph_test

import (
	"slices"
	"testing"

	"pantograph/api"
)

// P11.1, P11.2: First, and what Apart tells of the first variables.
func TestFirstAndApart(t *testing.T) {
	for _, x := range []struct {
		cons  string
		first int
		apart string
	}{
		{"", -1, "abcdefgh"}, {"ab bc ac", 2, "aaa"},
		// Without Terms, or of one variable.
		{"-", -1, ""}, {"- - -", -1, ""}, {"a", -1, "a"}, {"h", -1, ""}, {"a a", -1, "ab"}, {"a a a b b", -1, "ab"}, {"- a - h -", -1, ""}, {"a b ab a b", -1, "aa"}, {"ab a b - c", -1, "aa"}, {"- ab - ab", 3, "aa"}, {"a ab b ab a", 3, "aa"}, {"bc b c - bcd", 4, "abbb"},
		// Of two.
		{"ab", -1, "aa"}, {"ah", -1, "abcdefga"}, {"gh", -1, "abcdefgg"}, {"bd", -1, "abcb"}, {"ab bc", -1, "aaa"}, {"bc ab", -1, "aaa"}, {"ac bc", -1, "aaa"}, {"ab ac", -1, "aaa"}, {"ab cd", -1, "aacc"}, {"ac bd", -1, "abab"}, {"ad bc", -1, "abba"}, {"gh fg ef de cd bc ab", -1, "aaaaaaaa"},
		// Two of the same two.
		{"ab ab", 1, "aa"}, {"ab cd ab", 2, "aacc"}, {"ab cd cd", 2, "aacc"}, {"cd ab bc cd", 3, "aaaa"}, {"gh gh", 1, "abcdefgg"}, {"ah b ah", 2, "abcdefga"}, {"ab ab ab", 1, "aa"}, {"abc ab", 1, "aaa"}, {"abc bc", 1, "aaa"}, {"abc ac", 1, "aaa"}, {"ab abc", 1, "aaa"}, {"bc abc", 1, "aaa"}, {"ac abc", 1, "aaa"},
		// Of three and more.
		{"abc", -1, "aaa"}, {"abcdefgh", -1, "aaaaaaaa"}, {"bdf", -1, "abcbeb"}, {"abc def", -1, "aaaddd"}, {"abc cde", -1, "aaaaa"}, {"cde abc", -1, "aaaaa"}, {"ace bdf", -1, "ababab"}, {"ace bdf gh", -1, "abababgg"}, {"ace bdf gh ab", -1, "aaaaaagg"}, {"abc abc", 1, "aaa"}, {"abcd cdef", 1, "aaaaaa"}, {"abc cde aeg", 2, "aaaaafa"}, {"abc def adg", -1, "aaaaaaa"}, {"abc def adg cgh", 3, "aaaaaaaa"}, {"abcd efgh ae", -1, "aaaaaaaa"}, {"abcd efgh ae dh", 3, "aaaaaaaa"}, {"acegh b d f", -1, "abadafaa"},
		// Two of three that are joined by one ahead, by several in a row, only
		// by one behind; the first and the last, but not those between.
		{"ac abc", 1, "aaa"}, {"ab acd", -1, "aaaa"}, {"ab bc cd aed", 3, "aaaaa"}, {"bc cd ae bdf", 3, "abbbab"}, {"abd ab", 1, "aaca"}, {"aef ab bc cd de", 4, "aaaaaa"}, {"ae abe", 1, "aacda"}, {"ae abcde", 1, "aaaaa"}, {"ab be acde", 2, "aaaaa"}, {"bh bdfh", 1, "abcbebgb"}, {"bd abcde", 1, "aaaaa"}, {"cd abcde", 1, "aaaaa"}, {"de abcde", 1, "aaaaa"}, {"ab abcde", 1, "aaaaa"}, {"ad abcd", 1, "aaaa"}, {"bf cf ag abce", 3, "aaadaaa"}, {"af bf abg", 2, "aacdeaa"}, {"bg eg abcde", 2, "aaaaafa"},
		// Rings of three, four and many, closed in each of their places.
		{"ab ac bc", 2, "aaa"}, {"bc ac ab", 2, "aaa"}, {"ac bc ab", 2, "aaa"}, {"ab bc cd ad", 3, "aaaa"}, {"ab cd ad bc", 3, "aaaa"}, {"ad bc ab cd", 3, "aaaa"}, {"ac bd ad bc", 3, "aaaa"}, {"ab bc cd bd", 3, "aaaa"}, {"ab bc cd ac", 3, "aaaa"}, {"ah bh bc cg ag", 4, "aaadefaa"}, {"ab bc cd de ef fg gh ah", 7, "aaaaaaaa"}, {"ah gh fg ef de cd bc ab", 7, "aaaaaaaa"}, {"ae bf cg dh be cf dg ah", 7, "aaaaaaaa"}, {"ae bf cg dh be cf dg ad", 7, "aaaaaaaa"}, {"bd df fh bh", 3, "abcbebgb"},
		// Two rings: the first is told.
		{"ab bc ac cd bd", 2, "aaaa"}, {"ab ab cd cd", 1, "aacc"}, {"ab cd cd ab", 2, "aacc"}, {"ab cd ef cd ab ef", 3, "aaccee"}, {"ab cd bc ad ef fg eg", 3, "aaaaeee"}, {"ef ab fg cd bc eg ad", 5, "aaaaeee"}, {"abc abd abe", 1, "aaaaa"},
		// A ring in one part, and a forest in another; none of a ring but one.
		{"ab bc ac de ef", 2, "aaaddd"}, {"de ef ab bc ac", 4, "aaaddd"}, {"de ab ef bc gh ac", 5, "aaadddgg"}, {"gh gh", 1, "abcdefgg"}, {"ab ac ad ae af ag gh gh", 7, "aaaaaaaa"}, {"fg ab ac fg ad", 3, "aaaaeff"},
		// A variable that all are joined to.
		{"ab ac ad ae af ag ah", -1, "aaaaaaaa"}, {"ah bh ch dh eh fh gh", -1, "aaaaaaaa"}, {"ad bd cd de df dg dh", -1, "aaaaaaaa"}, {"dh dg df de cd bd ad", -1, "aaaaaaaa"}, {"ad bd cd de df dg dh gh", 7, "aaaaaaaa"}, {"abcdefgh a h", -1, "aaaaaaaa"}, {"abcdefgh ah", 1, "aaaaaaaa"}, {"bh ch dh eh fh gh", -1, "abbbbbbb"},
		// What is joined late has the least one of all.
		{"ef gh", -1, "abcdeegg"}, {"ef gh fh", -1, "abcdeeee"}, {"ef gh fh dg", -1, "abcddddd"}, {"gh fg ah", -1, "abcdeaaa"}, {"ef fg gh ah", -1, "abcdaaaa"}, {"ah bg ab", -1, "aacdefaa"}, {"bh cg df bc df", 4, "abbdedbb"}, {"bh cg df cd gh", -1, "abbbebbb"},
	} {
		l := cons(x.cons)
		for _, n := range []int{8, 9, 63, 64, 65, 1 << 32, highest} {
			expectFirst(t, l, n, x.first)
			expectApart(t, l, n, leasts(x.apart, min(n, 64)))
			expectSaid(t, l, min(n, 9))
		}
	}
}

// P11.1, P11.2
func TestNoConstraints(t *testing.T) {
	for n, vars := range numbersOfVariables() {
		for _, l := range [][]api.Con{nil, {}, make([]api.Con, 0, 5), cons("ab ab")[:0]} {
			expectFirst(t, l, n, -1)
			expectApart(t, l, n, upTo(vars))
		}
	}
}

// P11.1, P11.2: n is held within 0 and 64; a constraint counts, if all its
// variables are below it.
func TestNumbersOfVariables(t *testing.T) {
	for n, vars := range numbersOfVariables() {
		// Each to the next one, as far as there are any.
		var chain []api.Con
		for v := range 70 {
			chain = append(chain, of(v, v+1))
		}
		expectFirst(t, chain, n, -1)
		expectApart(t, chain, n, make([]int, vars))
		slices.Reverse(chain)
		expectFirst(t, chain, n, -1)
		expectApart(t, chain, n, make([]int, vars))
		for v := 1; v < 70; v++ {
			closing := append(slices.Clone(chain), of(), of(0, v), of(0, v))
			apart := upTo(vars)
			if v < vars {
				expectFirst(t, closing, n, 71)
				expectFirst(t, closing[70:], n, 2)
				apart[v] = 0
			} else {
				expectFirst(t, closing, n, -1)
				expectFirst(t, closing[70:], n, -1)
			}
			expectApart(t, closing, n, make([]int, vars))
			expectApart(t, closing[70:], n, apart)
		}
		// Nothing of a constraint counts, if its last variable does not.
		expectSaid(t, []api.Con{of(0, 1, n), of(0, 1, vars), of(0, 1), of(0, 1, 2)}, n)
		expectSaid(t, []api.Con{of(n-2, n-1), of(vars-2, vars-1), of(n-1, n), of(vars-1, vars), of(0, vars-1), of(n-2, n-1)}, n)
	}
	expectFirst(t, cons("ab ab"), 1, -1)
	expectFirst(t, cons("ab ab"), 2, 1)
	expectApart(t, cons("ab"), 1, []int{0})
	expectApart(t, cons("ab"), 2, []int{0, 0})
	expectFirst(t, cons("abc ab ab"), 2, 2)
	expectFirst(t, cons("abc ab ab"), 3, 1)
	expectApart(t, cons("abc a b"), 2, []int{0, 1})
	expectFirst(t, []api.Con{of(62, 63, 64), of(62, 63), of(62, 63)}, highest, 2)
	expectFirst(t, []api.Con{of(0, 64), of(0, 64), of(64, 65), of(64, 65)}, highest, -1)
}

// P11.1, P11.2: all that may be of a constraint but its variables makes no
// difference, and all Strengths count.
func TestNumbersMakeNoDifference(t *testing.T) {
	numbers := []api.Rat{whole(1), whole(-1), small(1, 2), small(-7, 3), ratOf(false, []uint32{0, 0, 1}, []uint32{most}), ratOf(true, []uint32{1}, slices.Repeat([]uint32{most}, 20))}
	for first := range 5 {
		for second := range 5 {
			for i, c := range numbers {
				k := append(numbers, whole(0))[(i+first+second)%7]
				a, b := con(first, k, term(0, c), term(2, whole(3))), con(second, whole(second), term(0, whole(-1)), term(2, c))
				expectFirst(t, []api.Con{a, b}, 3, 1)
				expectFirst(t, []api.Con{b, a}, 3, 1)
				expectFirst(t, []api.Con{a, of(0, 1), con(second, k, term(1, c), term(2, c))}, 3, 2)
				expectApart(t, []api.Con{a}, 3, []int{0, 1, 0})
				expectApart(t, []api.Con{a, con(second, k, term(1, c))}, 3, []int{0, 1, 0})
				expectFirst(t, []api.Con{a, con(second, k, term(0, c), term(1, whole(1))), con(first, k)}, 3, -1)
			}
		}
	}
}

// P11.1, P11.2: what may not be is joined to nothing, but is counted; alone
// and among others, wherever it stands.
func TestConstraintsThatMayNotBe(t *testing.T) {
	around := []string{"", "-", "a", "ab", "ac", "bc", "bc ac", "ab bc", "ab ab", "ab bc ac", "ad bd cd ac", "bcd cde", "abcd", "cd cd ab"}
	for _, text := range around {
		l := cons(text)
		for _, n := range []int{-1, 0, 1, 2, 3, 5, 64, 65, highest} {
			s := saidOf(l, n)
			for _, bad := range badCons() {
				for at := range len(l) + 1 {
					want := s.first
					if want >= at {
						want++
					}
					with := slices.Insert(slices.Clone(l), at, bad)
					expectFirst(t, with, n, want)
					expectApart(t, with, n, s.apart)
				}
			}
		}
	}
	for _, bad := range badCons() {
		expectFirst(t, []api.Con{bad, bad, bad}, 64, -1)
		expectApart(t, []api.Con{bad, bad, bad}, 64, upTo(64))
		expectFirst(t, []api.Con{of(0, 1), bad, of(1, 2), bad, bad, of(0, 2), bad}, 64, 5)
	}
	all := badCons()
	expectFirst(t, all, 64, -1)
	expectApart(t, all, 64, upTo(64))
	expectFirst(t, slices.Concat(all, cons("ab bc"), all, cons("ac"), all), 64, 2*len(all)+2)
	expectApart(t, slices.Concat(all, cons("bc"), all, cons("cd"), all), 5, []int{0, 1, 1, 1, 4})
}

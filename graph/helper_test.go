package graph_test

import (
	"math/big"
	"math/rand"
	"slices"
	"strings"
	"testing"

	"pantograph/api"
	"pantograph/graph"
)

const (
	most    = 1<<32 - 1
	highest = 1<<63 - 1
	lowest  = -1 << 63
)

// ratOf is a number as it is written, normal or not.
func ratOf(neg bool, n, d []uint32) api.Rat { return api.Rat{Neg: neg, N: n, D: d} }

// small is a number of small parts, as they are written.
func small(n int, d uint32) api.Rat {
	if n < 0 {
		return ratOf(true, []uint32{uint32(-n)}, []uint32{d})
	}
	return ratOf(false, []uint32{uint32(n)}, []uint32{d})
}

func whole(n int) api.Rat { return normal(big.NewRat(int64(n), 1)) }

func natural(a []uint32) *big.Int {
	n := new(big.Int)
	for _, limb := range slices.Backward(a) {
		n.Lsh(n, 32)
		n.Or(n, new(big.Int).SetUint64(uint64(limb)))
	}
	return n
}

func limbs(n *big.Int) []uint32 {
	var a []uint32
	for n = new(big.Int).Abs(n); n.Sign() > 0; n.Rsh(n, 32) {
		a = append(a, uint32(new(big.Int).And(n, big.NewInt(most)).Uint64()))
	}
	return a
}

// value is a number of the library: which numbers are normal is worked out
// without the packages of the project.
func value(a api.Rat) *big.Rat {
	n, d := natural(a.N), natural(a.D)
	if d.Sign() == 0 {
		return new(big.Rat)
	}
	if a.Neg {
		n.Neg(n)
	}
	return new(big.Rat).SetFrac(n, d)
}

// normal is a number of the library as the document writes it.
func normal(x *big.Rat) api.Rat {
	return ratOf(x.Sign() < 0, limbs(x.Num()), limbs(x.Denom()))
}

// alike tells whether two numbers are written alike, limb by limb.
func alike(a, b api.Rat) bool {
	return a.Neg == b.Neg && slices.Equal(a.N, b.N) && slices.Equal(a.D, b.D)
}

func con(strength int, k api.Rat, terms ...api.Term) api.Con {
	return api.Con{Strength: strength, Terms: terms, K: k}
}

func term(place int, c api.Rat) api.Term { return api.Term{Var: place, C: c} }

// row are terms of whole numbers: a variable and its number by turns.
func row(pairs ...int) []api.Term {
	var list []api.Term
	for i := 0; i < len(pairs); i += 2 {
		list = append(list, term(pairs[i], whole(pairs[i+1])))
	}
	return list
}

// of is a constraint of some variables, as they come.
func of(vars ...int) api.Con {
	c := con(0, whole(0))
	for _, v := range vars {
		c.Terms = append(c.Terms, term(v, whole(1)))
	}
	return c
}

// letters are the variables of the constraints that are written as texts.
const letters = "abcdefgh"

// cons are constraints of a text, with blanks between: each is the letters of
// its variables, - is one without Terms.
func cons(text string) []api.Con {
	var list []api.Con
	for _, word := range strings.Fields(text) {
		c := of()
		for v, letter := range letters {
			if strings.ContainsRune(word, letter) {
				c.Terms = append(c.Terms, term(v, whole(1)))
			}
		}
		if len(c.Terms) != len(strings.Trim(word, "-")) {
			panic("the test's constraint is none: " + word)
		}
		list = append(list, c)
	}
	return list
}

// leasts are the variables that Apart tells, of the letters of a text; behind
// them each variable is joined to itself alone.
func leasts(text string, n int) []int {
	list := upTo(n)
	for v, letter := range text {
		list[v] = strings.IndexRune(letters, letter)
	}
	return list
}

func upTo(n int) []int {
	var list []int
	for v := range n {
		list = append(list, v)
	}
	return list
}

func expectFirst(t *testing.T, l []api.Con, n, want int) {
	t.Helper()
	if got := graph.First(l, n); got != want {
		t.Fatalf("First is %v, not %v, of %v variables: %v", got, want, n, l)
	}
	if got := graph.Forest(l, n); got != (want == -1) {
		t.Fatalf("Forest is %v of %v variables: %v", got, n, l)
	}
}

func expectApart(t *testing.T, l []api.Con, n int, want []int) {
	t.Helper()
	if got := graph.Apart(l, n); !slices.Equal(got, want) {
		t.Fatalf("Apart is %v, not %v, of %v variables: %v", got, want, n, l)
	}
}

// roughRats are numbers that are not normal, and 0.
func roughRats() []api.Rat {
	return []api.Rat{
		{}, {Neg: true}, small(0, 1), small(0, 5), ratOf(false, nil, []uint32{5}), ratOf(true, nil, []uint32{1}), ratOf(false, []uint32{1}, nil), ratOf(false, nil, []uint32{0}), small(5, 0), small(-5, 0), whole(0),
		small(2, 2), small(-3, 3), small(6, 4), small(-6, 4), ratOf(false, []uint32{3, 0}, []uint32{2}), ratOf(false, []uint32{3}, []uint32{2, 0}), ratOf(true, []uint32{0, 1, 0}, []uint32{3}), ratOf(false, []uint32{0, 1}, []uint32{0, 3}),
		ratOf(false, slices.Repeat([]uint32{most}, 20), slices.Repeat([]uint32{most}, 20)),
	}
}

// badCons are constraints that may not be, of no n. Each would join a to b, or
// b to c, or close a ring by itself, if it did count.
func badCons() []api.Con {
	list := []api.Con{
		of(1, 0), of(0, 1, 0), of(0, 2, 1), of(0, 1, 1), of(0, 0, 1), of(0, 0), of(1, 1), of(0, 1, 2, 1), of(2, 1), of(2, 1, 0), of(0, 1, 2, 3, 2),
		of(-1, 0, 1), of(-1, 1, 2), of(0, -1, 1), of(0, 1, -1), of(lowest, 0, 1), of(0, lowest, 1), of(0, 1, lowest), of(-2, -1, 0, 1), of(-64, 0, 1), of(-1<<32, 0, 1),
		of(0, 1, 64), of(0, 1, 65), of(1, 2, 64), of(0, 1, 1000), of(0, 1, 1<<32), of(0, 1, 2, highest), of(0, 64, 1), of(64, 0, 1), of(highest, 0, 1), of(1<<32, 1<<32+1), of(0, 1<<32+1),
	}
	for _, strength := range []int{-1, -2, 5, 6, 256, 1 << 32, 1<<32 + 1, lowest, highest} {
		list = append(list, con(strength, whole(0), row(0, 1, 1, 1)...), con(strength, whole(2), row(1, 1, 2, 1)...), con(strength, whole(0), row(0, 1, 1, 1, 2, 1)...))
	}
	for _, a := range roughRats() {
		list = append(list, con(0, whole(0), term(0, a), term(1, whole(1))), con(1, whole(1), term(0, whole(1)), term(1, a)), con(2, whole(0), term(0, whole(1)), term(1, whole(1)), term(2, a)), con(3, whole(0), term(0, whole(1)), term(1, a), term(2, whole(1))))
		if !alike(a, whole(0)) {
			list = append(list, con(0, a, row(0, 1, 1, 1)...), con(4, a, row(1, 1, 2, -1)...))
		}
	}
	return list
}

// permuted hands out a list in all its orders.
func permuted[T any](list []T, yield func(list []T)) {
	if len(list) == 0 {
		yield(nil)
	}
	for i, first := range list {
		others := slices.Delete(slices.Clone(list), i, i+1)
		permuted(others, func(rest []T) { yield(append([]T{first}, rest...)) })
	}
}

func shuffled[T any](r *rand.Rand, list []T) []T {
	list = slices.Clone(list)
	r.Shuffle(len(list), func(i, k int) { list[i], list[k] = list[k], list[i] })
	return list
}

// numbersOfVariables are some n, and how many variables they are.
func numbersOfVariables() map[int]int {
	return map[int]int{lowest: 0, -1 << 32: 0, -65: 0, -64: 0, -2: 0, -1: 0, 0: 0, 1: 1, 2: 2, 3: 3, 31: 31, 62: 62, 63: 63, 64: 64, 65: 64, 66: 64, 128: 64, 1 << 16: 64, 1 << 32: 64, 1<<32 + 1: 64, highest: 64}
}

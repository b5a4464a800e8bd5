package gauss_test

import (
	"math/big"
	"math/rand"
	"slices"
	"strings"
	"testing"

	"pantograph/aff"
	"pantograph/api"
	"pantograph/expr"
	"pantograph/gauss"
)

const (
	most    = 1<<32 - 1
	highest = 1<<63 - 1
	lowest  = -1 << 63
)

// ratOf is a number as it is written, normal or not.
func ratOf(neg bool, n, d []uint32) api.Rat { return api.Rat{Neg: neg, N: n, D: d} }

// small is a number of small parts, as they are written.
func small(n int, d uint32) api.Rat {
	if n < 0 {
		return ratOf(true, []uint32{uint32(-n)}, []uint32{d})
	}
	return ratOf(false, []uint32{uint32(n)}, []uint32{d})
}

func whole(n int) api.Rat { return normal(big.NewRat(int64(n), 1)) }

func wholes(list ...int) []api.Rat {
	var all []api.Rat
	for _, n := range list {
		all = append(all, whole(n))
	}
	return all
}

func natural(a []uint32) *big.Int {
	n := new(big.Int)
	for _, limb := range slices.Backward(a) {
		n.Lsh(n, 32)
		n.Or(n, new(big.Int).SetUint64(uint64(limb)))
	}
	return n
}

func limbs(n *big.Int) []uint32 {
	var a []uint32
	for n = new(big.Int).Abs(n); n.Sign() > 0; n.Rsh(n, 32) {
		a = append(a, uint32(new(big.Int).And(n, big.NewInt(most)).Uint64()))
	}
	return a
}

// value is a number of the library: what the answers are held against is
// worked out without the packages of the project.
func value(a api.Rat) *big.Rat {
	n, d := natural(a.N), natural(a.D)
	if d.Sign() == 0 {
		return new(big.Rat)
	}
	if a.Neg {
		n.Neg(n)
	}
	return new(big.Rat).SetFrac(n, d)
}

// normal is a number of the library as the document writes it.
func normal(x *big.Rat) api.Rat {
	return ratOf(x.Sign() < 0, limbs(x.Num()), limbs(x.Denom()))
}

// alike tells whether two numbers are written alike, limb by limb.
func alike(a, b api.Rat) bool {
	return a.Neg == b.Neg && slices.Equal(a.N, b.N) && slices.Equal(a.D, b.D)
}

func con(strength int, k api.Rat, terms ...api.Term) api.Con {
	return api.Con{Strength: strength, Terms: terms, K: k}
}

func term(place int, c api.Rat) api.Term { return api.Term{Var: place, C: c} }

// row are terms of whole numbers: a variable and its number by turns.
func row(pairs ...int) []api.Term {
	var list []api.Term
	for i := 0; i < len(pairs); i += 2 {
		list = append(list, term(pairs[i], whole(pairs[i+1])))
	}
	return list
}

// letters are the variables of the sums that are written as texts.
const letters = "abcdefgh"

// sum is one of a text: a is variable 0, b is 1 and so on.
func sum(text string) api.Con {
	e, _, err := expr.Parse(text)
	if err != api.OK {
		panic("the test's sum is no expression: " + text)
	}
	c, err := aff.Of(e, aff.Env{Vars: strings.Split(letters, "")})
	if err != api.OK {
		panic("the test's expression is no sum: " + text)
	}
	return c
}

// sums are those of a text, with commas between.
func sums(text string) []api.Con {
	var list []api.Con
	for part := range strings.SplitSeq(text, ",") {
		if part = strings.TrimSpace(part); part != "" {
			list = append(list, sum(part))
		}
	}
	return list
}

// place is a variable's number; that of a text that is no letter is 8.
func place(letter string) int {
	if i := strings.Index(letters, letter); i >= 0 {
		return i
	}
	return len(letters)
}

func expectConsistent(t *testing.T, l []api.Con, n int, want bool) {
	t.Helper()
	if gauss.Consistent(l, n) != want {
		t.Errorf("Consistent is not %v of %v variables: %v", want, n, l)
	}
}

func expectRank(t *testing.T, l []api.Con, n, want int) {
	t.Helper()
	if got := gauss.Rank(l, n); got != want {
		t.Errorf("Rank is %v, not %v, of %v variables: %v", got, want, n, l)
	}
}

func expectImplies(t *testing.T, l []api.Con, c api.Con, n int, want bool) {
	t.Helper()
	if gauss.Implies(l, c, n) != want {
		t.Errorf("Implies is not %v of %v variables: %v, by %v", want, n, c, l)
	}
}

func expectFixed(t *testing.T, l []api.Con, v, n int, want api.Rat) {
	t.Helper()
	if got, ok := gauss.Fixed(l, v, n); !ok || !alike(got, want) {
		t.Errorf("Fixed of variable %v of %v is %v, %v, not %v: %v", v, n, got, ok, want, l)
	}
}

func expectFree(t *testing.T, l []api.Con, v, n int) {
	t.Helper()
	if got, ok := gauss.Fixed(l, v, n); ok || !alike(got, api.Rat{}) {
		t.Errorf("Fixed of variable %v of %v is %v, %v: %v", v, n, got, ok, l)
	}
}

// inWords is what Fixed answers: a number, or free.
func inWords(a api.Rat, ok bool) string {
	switch {
	case ok && alike(a, normal(value(a))):
		return value(a).RatString()
	case !ok && alike(a, api.Rat{}):
		return "free"
	}
	return "what may not be answered"
}

// roughRats are numbers that are not normal.
func roughRats() []api.Rat {
	return []api.Rat{
		{}, {Neg: true}, small(0, 1), small(0, 5), ratOf(false, nil, []uint32{5}), ratOf(true, nil, []uint32{1}), ratOf(false, []uint32{1}, nil), ratOf(false, nil, []uint32{0}), small(5, 0), small(-5, 0),
		small(2, 2), small(-3, 3), small(6, 4), small(-6, 4), ratOf(false, []uint32{3, 0}, []uint32{2}), ratOf(false, []uint32{3}, []uint32{2, 0}), ratOf(true, []uint32{0, 1, 0}, []uint32{3}), ratOf(false, []uint32{0, 1}, []uint32{0, 3}),
		ratOf(false, slices.Repeat([]uint32{most}, 20), slices.Repeat([]uint32{most}, 20)),
	}
}

// badSums are sums that may not be, of no n. Each would say something, if it
// did count: of itself, beside a = 1, or of how many are independent.
func badSums() []api.Con {
	list := []api.Con{
		con(0, whole(-2), row(1, 1, 0, 1)...), con(0, whole(-2), row(0, 1, 0, 1)...), con(0, whole(-2), row(0, 1, 2, 1, 1, 1)...), con(0, whole(-2), row(0, 1, 2, 1, 2, 1)...), con(0, whole(-2), row(0, 1, 1, 1, 0, 1)...),
		con(0, whole(-2), row(-1, 1)...), con(0, whole(-2), row(-1, 1, 0, 1)...), con(0, whole(-2), row(0, 1, -1, 1)...), con(0, whole(-2), row(lowest, 1)...), con(0, whole(-2), row(lowest, 1, 0, 1)...),
		con(0, whole(-2), row(64, 1)...), con(0, whole(-2), row(0, 1, 64, 1)...), con(0, whole(-2), row(65, 1)...), con(0, whole(-2), row(0, 1, 1000, 1)...), con(0, whole(-2), row(highest, 1)...), con(0, whole(-2), row(1<<32, 1)...),
		con(0, whole(-2), term(0, whole(0))), con(0, whole(-2), term(0, whole(1)), term(1, whole(0))), con(0, whole(-2), term(0, whole(0)), term(1, whole(1))),
	}
	for _, strength := range []int{-1, 5, 6, 256, 1 << 32, lowest, highest} {
		list = append(list, con(strength, whole(-2), row(0, 1)...), con(strength, whole(-2)), con(strength, whole(0), row(0, 1, 1, 1)...))
	}
	for _, a := range roughRats() {
		if !alike(a, whole(0)) {
			list = append(list, con(0, whole(-2), term(0, a)), con(0, whole(-2), term(0, whole(1)), term(1, a)), con(0, whole(-2), term(1, a), term(2, whole(1))))
			list = append(list, con(0, a), con(0, a, row(0, 1)...), con(4, a, row(0, 1, 1, -1)...))
		}
	}
	return list
}

// goodSums are sums that may be, of few variables, each by itself.
func goodSums() []api.Con {
	return append(sums("0, 1, -1/2, a, a - 1, 2*a + 1, -a/3 + 0.5, b, b - 2, a + b, a - b - 1, a/2 + b/3 - 1, c, a + b + c, b - c + 7, a + b + c - d, d - 1"), con(1, whole(-1), row(0, 1)...), con(4, whole(3), row(0, 2, 3, -1)...), con(3, whole(0)), con(2, small(1, 3)))
}

// permuted hands out a list in all its orders.
func permuted[T any](list []T, yield func(list []T)) {
	if len(list) == 0 {
		yield(nil)
	}
	for i, first := range list {
		others := slices.Delete(slices.Clone(list), i, i+1)
		permuted(others, func(rest []T) { yield(append([]T{first}, rest...)) })
	}
}

func shuffled[T any](r *rand.Rand, list []T) []T {
	list = slices.Clone(list)
	r.Shuffle(len(list), func(i, k int) { list[i], list[k] = list[k], list[i] })
	return list
}

// long is a number of so many limbs in N and D.
func long(r *rand.Rand, n, d int) api.Rat {
	parts := [2]*big.Int{big.NewInt(1), big.NewInt(1)}
	for i, count := range []int{n, d} {
		for range count {
			parts[i].Lsh(parts[i], 32)
			parts[i].Or(parts[i], big.NewInt(int64(r.Uint32())))
		}
	}
	x := new(big.Rat).SetFrac(parts[0], parts[1])
	if r.Intn(2) == 0 {
		x.Neg(x)
	}
	return normal(x)
}

func times(a api.Con, by *big.Rat) api.Con {
	list := slices.Clone(a.Terms)
	for i, t := range list {
		list[i].C = normal(new(big.Rat).Mul(value(t.C), by))
	}
	return con(a.Strength, normal(new(big.Rat).Mul(value(a.K), by)), list...)
}

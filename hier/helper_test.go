package hier_test

import (
	"math/big"
	"math/rand"
	"slices"
	"strings"
	"testing"

	"pantograph/aff"
	"pantograph/api"
	"pantograph/expr"
	"pantograph/hier"
)

const (
	most    = 1<<32 - 1
	highest = 1<<63 - 1
	lowest  = -1 << 63
)

// ratOf is a number as it is written, normal or not.
func ratOf(neg bool, n, d []uint32) api.Rat { return api.Rat{Neg: neg, N: n, D: d} }

// small is a number of small parts, as they are written.
func small(n int, d uint32) api.Rat {
	if n < 0 {
		return ratOf(true, []uint32{uint32(-n)}, []uint32{d})
	}
	return ratOf(false, []uint32{uint32(n)}, []uint32{d})
}

func whole(n int) api.Rat { return normal(big.NewRat(int64(n), 1)) }

func natural(a []uint32) *big.Int {
	n := new(big.Int)
	for _, limb := range slices.Backward(a) {
		n.Lsh(n, 32)
		n.Or(n, new(big.Int).SetUint64(uint64(limb)))
	}
	return n
}

func limbs(n *big.Int) []uint32 {
	var a []uint32
	for n = new(big.Int).Abs(n); n.Sign() > 0; n.Rsh(n, 32) {
		a = append(a, uint32(new(big.Int).And(n, big.NewInt(most)).Uint64()))
	}
	return a
}

// value is a number of the library: what the answers are held against is
// worked out without the packages of the project.
func value(a api.Rat) *big.Rat {
	n, d := natural(a.N), natural(a.D)
	if d.Sign() == 0 {
		return new(big.Rat)
	}
	if a.Neg {
		n.Neg(n)
	}
	return new(big.Rat).SetFrac(n, d)
}

// normal is a number of the library as the document writes it.
func normal(x *big.Rat) api.Rat {
	return ratOf(x.Sign() < 0, limbs(x.Num()), limbs(x.Denom()))
}

// alike tells whether two numbers are written alike, limb by limb.
func alike(a, b api.Rat) bool {
	return a.Neg == b.Neg && slices.Equal(a.N, b.N) && slices.Equal(a.D, b.D)
}

func isNormal(a api.Rat) bool { return alike(a, normal(value(a))) }

// numbers are those of a text, with blanks between.
func numbers(text string) []api.Rat {
	var list []api.Rat
	for _, word := range strings.Fields(text) {
		x, ok := new(big.Rat).SetString(word)
		if !ok {
			panic("the test's number is none: " + word)
		}
		list = append(list, normal(x))
	}
	return list
}

func con(strength int, k api.Rat, terms ...api.Term) api.Con {
	return api.Con{Strength: strength, Terms: terms, K: k}
}

func term(place int, c api.Rat) api.Term { return api.Term{Var: place, C: c} }

// row are terms of whole numbers: a variable and its number by turns.
func row(pairs ...int) []api.Term {
	var list []api.Term
	for i := 0; i < len(pairs); i += 2 {
		list = append(list, term(pairs[i], whole(pairs[i+1])))
	}
	return list
}

// is says that a variable is a number.
func is(strength, v, n int) api.Con { return con(strength, whole(-n), row(v, 1)...) }

// cons are constraints of a text, with commas between: a Strength and an
// equation of variables, of which a is 0, b is 1 and so on.
func cons(text string) []api.Con {
	var list []api.Con
	for part := range strings.SplitSeq(text, ",") {
		if part = strings.TrimSpace(part); part == "" {
			continue
		}
		word, equation, _ := strings.Cut(part, " ")
		left, right, _ := strings.Cut(equation, "=")
		e, _, err := expr.Parse(left + " - (" + right + ")")
		if err != api.OK {
			panic("the test's constraint is no equation: " + part)
		}
		c, err := aff.Of(e, aff.Env{Vars: strings.Split("abcdefgh", "")})
		if err != api.OK {
			panic("the test's equation is no constraint: " + part)
		}
		c.Strength = slices.Index([]string{"required", "strong", "medium", "weak", "stay"}, word)
		if c.Strength < 0 {
			panic("the test's Strength is none: " + part)
		}
		list = append(list, c)
	}
	return list
}

func expectBeaten(t *testing.T, l []api.Con, before, val []api.Rat, want int) {
	t.Helper()
	if got := hier.Beaten(l, before, val); got != want {
		t.Fatalf("Beaten is %v, not %v: %v, before %v, at %v", got, want, l, before, val)
	}
}

func expectLevels(t *testing.T, l []api.Con, val []api.Rat, want ...int) {
	t.Helper()
	if got := hier.Levels(l, val); !slices.Equal(got, want) {
		t.Fatalf("Levels are %v, not %v: %v, at %v", got, want, l, val)
	}
}

// roughNumbers are numbers that are not normal.
func roughNumbers() []api.Rat {
	return []api.Rat{
		{}, {Neg: true}, small(0, 5), ratOf(false, nil, []uint32{5}), ratOf(true, nil, []uint32{1}), ratOf(false, []uint32{1}, nil), ratOf(false, []uint32{0}, []uint32{1}), small(5, 0), small(-5, 0),
		small(2, 2), small(-3, 3), small(6, 4), small(-6, 4), ratOf(false, []uint32{3, 0}, []uint32{2}), ratOf(false, []uint32{3}, []uint32{2, 0}), ratOf(true, []uint32{0, 1, 0}, []uint32{3}), ratOf(false, []uint32{0, 1}, []uint32{0, 3}),
		ratOf(false, slices.Repeat([]uint32{most}, 20), slices.Repeat([]uint32{most}, 20)),
	}
}

// rewritten is a number as it may be written, too, though that is not normal.
func rewritten(a api.Rat, way int) api.Rat {
	if len(a.N) == 0 {
		return roughNumbers()[way%9]
	}
	switch by := big.NewInt(int64(2 + way)); way % 3 {
	case 0:
		return ratOf(a.Neg, append(slices.Clone(a.N), 0), a.D)
	case 1:
		return ratOf(a.Neg, a.N, append(slices.Clone(a.D), 0, 0))
	default:
		return ratOf(a.Neg, limbs(by.Mul(by, natural(a.N))), limbs(new(big.Int).Mul(big.NewInt(int64(2+way)), natural(a.D))))
	}
}

func allRewritten(list []api.Rat) []api.Rat {
	var all []api.Rat
	for i, a := range list {
		all = append(all, rewritten(a, i+len(list)))
	}
	return all
}

// permuted hands out a list in all its orders.
func permuted[T any](list []T, yield func(list []T)) {
	if len(list) == 0 {
		yield(nil)
	}
	for i, first := range list {
		others := slices.Delete(slices.Clone(list), i, i+1)
		permuted(others, func(rest []T) { yield(append([]T{first}, rest...)) })
	}
}

func shuffled[T any](r *rand.Rand, list []T) []T {
	list = slices.Clone(list)
	r.Shuffle(len(list), func(i, k int) { list[i], list[k] = list[k], list[i] })
	return list
}

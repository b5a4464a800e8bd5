package solve_test

import (
	"math/big"
	"math/rand"
	"slices"
	"strings"
	"testing"

	"pantograph/aff"
	"pantograph/api"
	"pantograph/expr"
	"pantograph/solve"
)

const (
	most    = 1<<32 - 1
	highest = 1<<63 - 1
	lowest  = -1 << 63
)

// ratOf is a number as it is written, normal or not.
func ratOf(neg bool, n, d []uint32) api.Rat { return api.Rat{Neg: neg, N: n, D: d} }

// small is a number of small parts, as they are written.
func small(n int, d uint32) api.Rat {
	if n < 0 {
		return ratOf(true, []uint32{uint32(-n)}, []uint32{d})
	}
	return ratOf(false, []uint32{uint32(n)}, []uint32{d})
}

func whole(n int) api.Rat { return normal(big.NewRat(int64(n), 1)) }

func natural(a []uint32) *big.Int {
	n := new(big.Int)
	for _, limb := range slices.Backward(a) {
		n.Lsh(n, 32)
		n.Or(n, new(big.Int).SetUint64(uint64(limb)))
	}
	return n
}

func limbs(n *big.Int) []uint32 {
	var a []uint32
	for n = new(big.Int).Abs(n); n.Sign() > 0; n.Rsh(n, 32) {
		a = append(a, uint32(new(big.Int).And(n, big.NewInt(most)).Uint64()))
	}
	return a
}

// value is a number of the library: which numbers are normal is worked out
// without the packages of the project.
func value(a api.Rat) *big.Rat {
	n, d := natural(a.N), natural(a.D)
	if d.Sign() == 0 {
		return new(big.Rat)
	}
	if a.Neg {
		n.Neg(n)
	}
	return new(big.Rat).SetFrac(n, d)
}

// normal is a number of the library as the document writes it.
func normal(x *big.Rat) api.Rat {
	return ratOf(x.Sign() < 0, limbs(x.Num()), limbs(x.Denom()))
}

// alike tells whether two numbers are written alike, limb by limb.
func alike(a, b api.Rat) bool {
	return a.Neg == b.Neg && slices.Equal(a.N, b.N) && slices.Equal(a.D, b.D)
}

func isNormal(a api.Rat) bool { return alike(a, normal(value(a))) }

// power is 2 to an exponent, and a whole number more.
func power(exponent uint, more int64) *big.Rat {
	n := new(big.Int).Lsh(big.NewInt(1), exponent)
	return new(big.Rat).SetInt(n.Add(n, big.NewInt(more)))
}

func minus(x *big.Rat) *big.Rat { return new(big.Rat).Neg(x) }

func inverse(x *big.Rat) *big.Rat { return new(big.Rat).Inv(x) }

func con(strength int, k api.Rat, terms ...api.Term) api.Con {
	return api.Con{Strength: strength, Terms: terms, K: k}
}

func term(place int, c api.Rat) api.Term { return api.Term{Var: place, C: c} }

// of is a constraint of some variables, as they come.
func of(strength int, vars ...int) api.Con {
	c := con(strength, whole(0))
	for _, v := range vars {
		c.Terms = append(c.Terms, term(v, whole(1)))
	}
	return c
}

// letters are the variables of what is written as texts.
const letters = "abcdefgh"

func words() []string { return []string{"required", "strong", "medium", "weak", "stay"} }

// cons are constraints and a choice of a text, with commas between: each is a
// Strength and an equation of variables, of which a is 0, b is 1 and so on;
// behind a > stands the variable that it tells.
func cons(text string) ([]api.Con, []int) {
	var list []api.Con
	var outs []int
	for part := range strings.SplitSeq(text, ",") {
		if part = strings.TrimSpace(part); part == "" {
			continue
		}
		part, out, isTelling := strings.Cut(part, ">")
		word, equation, _ := strings.Cut(part, " ")
		left, right, _ := strings.Cut(equation, "=")
		e, _, err := expr.Parse(left + " - (" + right + ")")
		if err != api.OK {
			panic("the test's constraint is no equation: " + part)
		}
		c, err := aff.Of(e, aff.Env{Vars: strings.Split(letters, "")})
		if err != api.OK {
			panic("the test's equation is no constraint: " + part)
		}
		if c.Strength = slices.Index(words(), word); c.Strength < 0 {
			panic("the test's Strength is none: " + part)
		}
		list = append(list, c)
		outs = append(outs, strings.Index(letters, strings.TrimSpace(out)))
		if !isTelling {
			outs[len(outs)-1] = -1
		}
	}
	return list, outs
}

// told is a choice of a text: of each constraint the letter of the variable
// that it tells, or - of none.
func told(text string) []int {
	var outs []int
	for _, letter := range text {
		outs = append(outs, strings.IndexRune(letters, letter))
	}
	return outs
}

// numbers are those of a text, with blanks between.
func numbers(text string) []api.Rat {
	var list []api.Rat
	for _, word := range strings.Fields(text) {
		x, ok := new(big.Rat).SetString(word)
		if !ok {
			panic("the test's number is none: " + word)
		}
		list = append(list, normal(x))
	}
	return list
}

func upTo(n int) []int {
	var list []int
	for v := range n {
		list = append(list, v)
	}
	return list
}

// nobody is the choice in which nobody tells.
func nobody(count int) []int { return slices.Repeat([]int{-1}, count) }

func state(outs []int, vals []api.Rat) solve.State { return solve.State{Outs: outs, Vals: vals} }

func alikeStates(a, b solve.State) bool {
	return slices.Equal(a.Outs, b.Outs) && slices.EqualFunc(a.Vals, b.Vals, alike)
}

func expectPhase(t *testing.T, l []api.Con, s, want solve.State) {
	t.Helper()
	got, at, err := solve.Phase(l, s)
	if err != api.OK || at != -1 || !alikeStates(got, want) {
		t.Fatalf("Phase is %v, %v, %v, not %v: %v, %v", got, at, err, want, l, s)
	}
}

// expectError: no State, the number of a constraint, and the error.
func expectError(t *testing.T, l []api.Con, s solve.State, number int, want api.Errno) {
	t.Helper()
	got, at, err := solve.Phase(l, s)
	if err != want || at != number || got.Outs != nil || got.Vals != nil {
		t.Fatalf("Phase is %v, %v, %v, not %v, %v: %v, %v", got, at, err, number, want, l, s)
	}
}

func expectArg(t *testing.T, l []api.Con, outs []int, vals []api.Rat) {
	t.Helper()
	expectError(t, l, state(outs, vals), -1, api.ErrArg)
}

// roughNumbers are numbers that are not normal.
func roughNumbers() []api.Rat {
	return []api.Rat{
		{}, {Neg: true}, small(0, 5), ratOf(false, nil, []uint32{5}), ratOf(true, nil, []uint32{1}), ratOf(false, []uint32{1}, nil), ratOf(false, []uint32{0}, []uint32{1}), small(5, 0), small(-5, 0),
		small(2, 2), small(-3, 3), small(6, 4), small(-6, 4), ratOf(false, []uint32{3, 0}, []uint32{2}), ratOf(false, []uint32{3}, []uint32{2, 0}), ratOf(true, []uint32{0, 1, 0}, []uint32{3}), ratOf(false, []uint32{0, 1}, []uint32{0, 3}),
		ratOf(false, slices.Repeat([]uint32{most}, 20), slices.Repeat([]uint32{most}, 20)),
	}
}

// rewritten is a number as it may be written, too, though that is not normal.
func rewritten(a api.Rat, way int) api.Rat {
	if len(a.N) == 0 {
		return roughNumbers()[way%9]
	}
	switch by := big.NewInt(int64(2 + way)); way % 3 {
	case 0:
		return ratOf(a.Neg, append(slices.Clone(a.N), 0), a.D)
	case 1:
		return ratOf(a.Neg, a.N, append(slices.Clone(a.D), 0, 0))
	default:
		return ratOf(a.Neg, limbs(by.Mul(by, natural(a.N))), limbs(new(big.Int).Mul(big.NewInt(int64(2+way)), natural(a.D))))
	}
}

func allRewritten(list []api.Rat) []api.Rat {
	var all []api.Rat
	for i, a := range list {
		all = append(all, rewritten(a, i+len(list)))
	}
	return all
}

// badCons are constraints that may not be, of no n. None of them is told by
// anything else than chapter 8.
func badCons() []api.Con {
	list := []api.Con{
		of(0, 1, 0), of(1, 0, 1, 0), of(2, 0, 2, 1), of(3, 0, 1, 1), of(4, 0, 0, 1), of(0, 0, 0), of(1, 1, 1), of(2, 2, 1),
		of(0, -1), of(3, -1), of(0, -1, 0, 1), of(1, 0, -1), of(3, lowest, 0), of(0, -2, -1), of(1, -64), of(2, -1<<32, 0, 1),
		of(0, 64), of(1, 0, 64), of(2, 0, 1, 65), of(3, 1000), of(0, 1<<32), of(3, highest), of(2, 1<<32, 1<<32+1),
	}
	for _, strength := range []int{-1, -2, 5, 6, 256, 1 << 32, 1<<32 + 1, lowest, highest} {
		list = append(list, of(strength), of(strength, 0), of(strength, 0, 1))
	}
	for _, a := range append(roughNumbers(), whole(0)) {
		list = append(list, con(0, whole(0), term(0, a)), con(1, whole(1), term(0, whole(1)), term(1, a)), con(3, whole(0), term(0, a), term(1, whole(1))))
		if !isNormal(a) {
			list = append(list, con(0, a), con(3, a, term(0, whole(1))), con(4, a, term(0, whole(1)), term(2, whole(-1))))
		}
	}
	return list
}

// maker makes constraints, choices and values at random.
type maker struct {
	*rand.Rand
	n     int // of so many variables
	terms int // of at most so many terms
}

func (m *maker) number() api.Rat {
	return normal(big.NewRat(int64(m.Intn(13)-6), int64(1+m.Intn(4))))
}

// con is one of some variables, in whatever order they come.
func (m *maker) con(vars []int) api.Con {
	vars = slices.Clone(vars)
	slices.Sort(vars)
	c := con(m.Intn(m.Intn(5)+1), m.number())
	for _, v := range vars {
		number := m.number()
		for len(number.N) == 0 {
			number = m.number()
		}
		c.Terms = append(c.Terms, term(v, number))
	}
	return c
}

// forest are constraints of which each has variables of parts that no other
// one joined. Few that are required have no Terms.
func (m *maker) forest(count int) []api.Con {
	var list []api.Con
	part := upTo(m.n)
	for len(list) < count {
		var vars []int
		for _, v := range m.Perm(m.n)[:min(m.n, m.Intn(m.terms+1))] {
			if !slices.ContainsFunc(vars, func(w int) bool { return part[v] == part[w] }) {
				vars = append(vars, v)
			}
		}
		for _, v := range vars {
			from := part[v]
			for w := range part {
				if part[w] == from {
					part[w] = part[vars[0]]
				}
			}
		}
		c := m.con(vars)
		if len(vars) == 0 && m.Intn(8) > 0 {
			c.K = whole(0)
		}
		list = append(list, c)
	}
	m.Shuffle(len(list), func(i, k int) { list[i], list[k] = list[k], list[i] })
	return list
}

// outs is a choice of which about so many of ten constraints tell, as far as
// there are variables left.
func (m *maker) outs(l []api.Con, often int) []int {
	outs := nobody(len(l))
	for _, i := range m.Perm(len(l)) {
		for _, k := range m.Perm(len(l[i].Terms)) {
			if v := l[i].Terms[k].Var; m.Intn(10) < often && outs[i] < 0 && !slices.Contains(outs, v) {
				outs[i] = v
			}
		}
	}
	return outs
}

// values are some numbers, of which some are not normal and few are Large.
func (m *maker) values() []api.Rat {
	var list []api.Rat
	for range m.n {
		switch a := m.number(); m.Intn(30) {
		case 0:
			list = append(list, roughNumbers()[m.Intn(18)])
		case 1, 2, 3:
			list = append(list, rewritten(a, m.Intn(9)))
		case 4:
			list = append(list, normal(power(uint(508+m.Intn(8)), int64(m.Intn(9)))))
		default:
			list = append(list, a)
		}
	}
	return list
}

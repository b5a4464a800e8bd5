package run_test

import (
	"math/big"
	"math/rand"
	"slices"
	"strings"
	"testing"

	"pantograph/aff"
	"pantograph/api"
	"pantograph/expr"
	"pantograph/run"
)

const (
	most    = 1<<32 - 1
	highest = 1<<63 - 1
	lowest  = -1 << 63
)

// ratOf is a number as it is written, normal or not.
func ratOf(neg bool, n, d []uint32) api.Rat { return api.Rat{Neg: neg, N: n, D: d} }

// small is a number of small parts, as they are written.
func small(n int, d uint32) api.Rat {
	if n < 0 {
		return ratOf(true, []uint32{uint32(-n)}, []uint32{d})
	}
	return ratOf(false, []uint32{uint32(n)}, []uint32{d})
}

func whole(n int) api.Rat { return normal(big.NewRat(int64(n), 1)) }

func natural(a []uint32) *big.Int {
	n := new(big.Int)
	for _, limb := range slices.Backward(a) {
		n.Lsh(n, 32)
		n.Or(n, new(big.Int).SetUint64(uint64(limb)))
	}
	return n
}

func limbs(n *big.Int) []uint32 {
	var a []uint32
	for n = new(big.Int).Abs(n); n.Sign() > 0; n.Rsh(n, 32) {
		a = append(a, uint32(new(big.Int).And(n, big.NewInt(most)).Uint64()))
	}
	return a
}

// value is a number of the library: which numbers are normal is worked out
// without the packages of the project.
func value(a api.Rat) *big.Rat {
	n, d := natural(a.N), natural(a.D)
	if d.Sign() == 0 {
		return new(big.Rat)
	}
	if a.Neg {
		n.Neg(n)
	}
	return new(big.Rat).SetFrac(n, d)
}

// normal is a number of the library as the document writes it.
func normal(x *big.Rat) api.Rat {
	return ratOf(x.Sign() < 0, limbs(x.Num()), limbs(x.Denom()))
}

// alike tells whether two numbers are written alike, limb by limb.
func alike(a, b api.Rat) bool {
	return a.Neg == b.Neg && slices.Equal(a.N, b.N) && slices.Equal(a.D, b.D)
}

func con(strength int, k api.Rat, terms ...api.Term) api.Con {
	return api.Con{Strength: strength, Terms: terms, K: k}
}

func term(place int, c api.Rat) api.Term { return api.Term{Var: place, C: c} }

// row are terms of whole numbers: a variable and its number by turns.
func row(pairs ...int) []api.Term {
	var list []api.Term
	for i := 0; i < len(pairs); i += 2 {
		list = append(list, term(pairs[i], whole(pairs[i+1])))
	}
	return list
}

// of is a constraint of some variables, as they come.
func of(strength int, vars ...int) api.Con {
	c := con(strength, whole(0))
	for _, v := range vars {
		c.Terms = append(c.Terms, term(v, whole(1)))
	}
	return c
}

// letters are the variables of the constraints that are written as texts.
const letters = "abcdefgh"

// choice is constraints and a choice of a text, with blanks between: each is
// its Strength, the letters of its variables (- is none), and, behind a >, the
// variable that it tells: 0:ab>b tells b.
func choice(text string) ([]api.Con, []int) {
	var list []api.Con
	var outs []int
	for _, word := range strings.Fields(text) {
		word, out, isTelling := strings.Cut(word, ">")
		strength, vars, _ := strings.Cut(word, ":")
		c := of(slices.Index([]string{"0", "1", "2", "3", "4"}, strength))
		for _, letter := range strings.Trim(vars, "-") {
			c.Terms = append(c.Terms, term(strings.IndexRune(letters, letter), whole(1)))
		}
		list = append(list, c)
		outs = append(outs, strings.Index(letters, out))
		if !isTelling {
			outs[len(outs)-1] = -1
		}
	}
	return list, outs
}

// told is a choice of a text: of each constraint the letter of the variable
// that it tells, or - of none.
func told(text string) []int {
	var outs []int
	for _, letter := range text {
		outs = append(outs, strings.IndexRune(letters, letter))
	}
	return outs
}

func upTo(n int) []int {
	var list []int
	for v := range n {
		list = append(list, v)
	}
	return list
}

// nobody is the choice in which nobody tells.
func nobody(count int) []int { return slices.Repeat([]int{-1}, count) }

// numbers are those of a text, with blanks between.
func numbers(text string) []api.Rat {
	var list []api.Rat
	for _, word := range strings.Fields(text) {
		x, ok := new(big.Rat).SetString(word)
		if !ok {
			panic("the test's number is none: " + word)
		}
		list = append(list, normal(x))
	}
	return list
}

// equations are constraints and a choice of a text, with commas between: each
// is an equation of variables, of which a is 0, b is 1 and so on; behind a >
// stands the variable that it tells.
func equations(text string) ([]api.Con, []int) {
	var list []api.Con
	var outs []int
	for part := range strings.SplitSeq(text, ",") {
		if part = strings.TrimSpace(part); part == "" {
			continue
		}
		part, out, isTelling := strings.Cut(part, ">")
		left, right, _ := strings.Cut(part, "=")
		e, _, err := expr.Parse(left + " - (" + right + ")")
		if err != api.OK {
			panic("the test's constraint is no equation: " + part)
		}
		c, err := aff.Of(e, aff.Env{Vars: strings.Split(letters, "")})
		if err != api.OK {
			panic("the test's equation is no constraint: " + part)
		}
		c.Strength = len(list) % 5
		list = append(list, c)
		outs = append(outs, strings.Index(letters, strings.TrimSpace(out)))
		if !isTelling {
			outs[len(outs)-1] = -1
		}
	}
	return list, outs
}

// power is 2 to an exponent, and a whole number more.
func power(exponent uint, more int64) *big.Rat {
	n := new(big.Int).Lsh(big.NewInt(1), exponent)
	return new(big.Rat).SetInt(n.Add(n, big.NewInt(more)))
}

func minus(x *big.Rat) *big.Rat { return new(big.Rat).Neg(x) }

func inverse(x *big.Rat) *big.Rat { return new(big.Rat).Inv(x) }

func expectOrder(t *testing.T, l []api.Con, outs []int, n int, want []int) {
	t.Helper()
	if got := run.Order(l, outs, n); !slices.Equal(got, want) {
		t.Fatalf("Order is %v, not %v, of %v variables: %v, %v", got, want, n, l, outs)
	}
}

func expectRun(t *testing.T, l []api.Con, outs []int, val, want []api.Rat) {
	t.Helper()
	got, at, err := run.Run(l, outs, val)
	if err != api.OK || at != -1 || !slices.EqualFunc(got, want, alike) {
		t.Fatalf("Run is %v, %v, %v, not %v: %v, %v, %v", got, at, err, want, l, outs, val)
	}
}

// expectError: nothing is told but the error, and the number of a constraint.
func expectError(t *testing.T, l []api.Con, outs []int, val []api.Rat, number int, want api.Errno) {
	t.Helper()
	got, at, err := run.Run(l, outs, val)
	if err != want || at != number || len(got) > 0 {
		t.Fatalf("Run is %v, %v, %v, not %v, %v: %v, %v, %v", got, at, err, number, want, l, outs, val)
	}
}

// expectNone: the choice may not be.
func expectNone(t *testing.T, l []api.Con, outs []int, n int) {
	t.Helper()
	expectOrder(t, l, outs, n, nil)
	if n >= 0 && n <= 1<<17 {
		expectError(t, l, outs, make([]api.Rat, n), -1, api.ErrArg)
		expectError(t, l, outs, slices.Repeat(numbers("1/3"), n), -1, api.ErrArg)
	}
}

// roughRats are numbers that are not normal, and 0.
func roughRats() []api.Rat {
	return []api.Rat{
		{}, {Neg: true}, small(0, 1), small(0, 5), ratOf(false, nil, []uint32{5}), ratOf(true, nil, []uint32{1}), ratOf(false, []uint32{1}, nil), ratOf(false, nil, []uint32{0}), small(5, 0), small(-5, 0), whole(0),
		small(2, 2), small(-3, 3), small(6, 4), small(-6, 4), ratOf(false, []uint32{3, 0}, []uint32{2}), ratOf(false, []uint32{3}, []uint32{2, 0}), ratOf(true, []uint32{0, 1, 0}, []uint32{3}), ratOf(false, []uint32{0, 1}, []uint32{0, 3}),
		ratOf(false, slices.Repeat([]uint32{most}, 20), slices.Repeat([]uint32{most}, 20)),
	}
}

// badCons are constraints that may not be, of no n.
func badCons() []api.Con {
	list := []api.Con{
		of(0, 1, 0), of(1, 0, 1, 0), of(2, 0, 2, 1), of(3, 0, 1, 1), of(4, 0, 0, 1), of(0, 0, 0), of(1, 1, 1), of(2, 2, 1), of(3, 0, 1, 2, 3, 2),
		of(0, -1), of(3, -1), of(0, -1, 0, 1), of(1, 0, -1), of(2, 0, 1, -1), of(3, lowest, 0), of(4, 0, lowest), of(0, -2, -1), of(1, -64), of(2, -1<<32, 0, 1),
		of(0, 64), of(1, 0, 64), of(2, 0, 1, 65), of(3, 1000), of(0, 1<<32), of(1, 0, 1<<32), of(2, 0, highest), of(3, highest), of(0, 64, 0), of(1, highest, 0), of(2, 1<<32, 1<<32+1), of(3, 0, 1<<32+1),
	}
	for _, strength := range []int{-1, -2, 5, 6, 256, 1 << 32, 1<<32 + 1, lowest, highest} {
		list = append(list, of(strength), of(strength, 0), of(strength, 0, 1))
	}
	for _, a := range roughRats() {
		list = append(list, con(0, whole(0), term(0, a)), con(1, whole(1), term(0, whole(1)), term(1, a)), con(2, whole(0), term(0, a), term(1, whole(1))), con(3, whole(0), term(0, whole(1)), term(1, a), term(2, whole(1))))
		if !alike(a, whole(0)) {
			list = append(list, con(0, a), con(3, a, row(0, 1)...), con(4, a, row(0, 1, 2, -1)...))
		}
	}
	return list
}

// roughNumbers are numbers that are not normal.
func roughNumbers() []api.Rat {
	return []api.Rat{
		{}, {Neg: true}, small(0, 5), ratOf(false, nil, []uint32{5}), ratOf(true, nil, []uint32{1}), ratOf(false, []uint32{1}, nil), ratOf(false, []uint32{0}, []uint32{1}), small(5, 0), small(-5, 0),
		small(2, 2), small(-3, 3), small(6, 4), small(-6, 4), ratOf(false, []uint32{3, 0}, []uint32{2}), ratOf(false, []uint32{3}, []uint32{2, 0}), ratOf(true, []uint32{0, 1, 0}, []uint32{3}), ratOf(false, []uint32{0, 1}, []uint32{0, 3}),
		ratOf(false, slices.Repeat([]uint32{most}, 20), slices.Repeat([]uint32{most}, 20)),
	}
}

// rewritten is a number as it may be written, too, though that is not normal.
func rewritten(a api.Rat, way int) api.Rat {
	if len(a.N) == 0 {
		return roughNumbers()[way%9]
	}
	switch by := big.NewInt(int64(2 + way)); way % 3 {
	case 0:
		return ratOf(a.Neg, append(slices.Clone(a.N), 0), a.D)
	case 1:
		return ratOf(a.Neg, a.N, append(slices.Clone(a.D), 0, 0))
	default:
		return ratOf(a.Neg, limbs(by.Mul(by, natural(a.N))), limbs(new(big.Int).Mul(big.NewInt(int64(2+way)), natural(a.D))))
	}
}

func allRewritten(list []api.Rat) []api.Rat {
	var all []api.Rat
	for i, a := range list {
		all = append(all, rewritten(a, i+len(list)))
	}
	return all
}

// permuted hands out a list in all its orders.
func permuted[T any](list []T, yield func(list []T)) {
	if len(list) == 0 {
		yield(nil)
	}
	for i, first := range list {
		others := slices.Delete(slices.Clone(list), i, i+1)
		permuted(others, func(rest []T) { yield(append([]T{first}, rest...)) })
	}
}

// maker makes constraints and choices at random.
type maker struct {
	*rand.Rand
	n     int // of so many variables
	terms int // of at most so many terms
}

func (m *maker) number() api.Rat {
	return normal(big.NewRat(int64(m.Intn(19)-9), int64(1+m.Intn(9))))
}

func (m *maker) term(v int) api.Term {
	c := m.number()
	for len(c.N) == 0 {
		c = m.number()
	}
	return term(v, c)
}

// con is one of some variables, in whatever order they come.
func (m *maker) con(vars []int) api.Con {
	vars = slices.Clone(vars)
	slices.Sort(vars)
	c := con(m.Intn(5), m.number())
	for _, v := range vars {
		c.Terms = append(c.Terms, m.term(v))
	}
	return c
}

// forest are constraints of which each has variables of parts that no other
// one joined.
func (m *maker) forest(count int) []api.Con {
	var list []api.Con
	part := upTo(m.n)
	for len(list) < count {
		var vars []int
		for _, v := range m.Perm(m.n)[:min(m.n, m.Intn(m.terms+1))] {
			if !slices.ContainsFunc(vars, func(w int) bool { return part[v] == part[w] }) {
				vars = append(vars, v)
			}
		}
		for _, v := range vars {
			from := part[v]
			for w := range part {
				if part[w] == from {
					part[w] = part[vars[0]]
				}
			}
		}
		list = append(list, m.con(vars))
	}
	m.Shuffle(len(list), func(i, k int) { list[i], list[k] = list[k], list[i] })
	return list
}

// outs is a choice of which about so many of ten constraints tell, as far as
// there are variables left.
func (m *maker) outs(l []api.Con, often int) []int {
	outs := nobody(len(l))
	for _, i := range m.Perm(len(l)) {
		for _, k := range m.Perm(len(l[i].Terms)) {
			if v := l[i].Terms[k].Var; m.Intn(10) < often && outs[i] < 0 && !slices.Contains(outs, v) {
				outs[i] = v
			}
		}
	}
	return outs
}

// values are some numbers, of which some are not normal and some are Large.
func (m *maker) values() []api.Rat {
	var list []api.Rat
	for range m.n {
		switch a := m.number(); m.Intn(12) {
		case 0:
			list = append(list, roughNumbers()[m.Intn(18)])
		case 1, 2:
			list = append(list, rewritten(a, m.Intn(9)))
		case 3:
			x := power(uint(480+m.Intn(64)), int64(m.Intn(9)))
			list = append(list, normal(x.Quo(x, value(m.term(0).C))))
		default:
			list = append(list, a)
		}
	}
	return list
}

// great makes some numbers of some constraints great ones.
func (m *maker) great(l []api.Con) []api.Con {
	l = slices.Clone(l)
	for i, c := range l {
		c.Terms = slices.Clone(c.Terms)
		x := power(uint(400+m.Intn(130)), int64(m.Intn(99)))
		if m.Intn(2) == 0 {
			x.Quo(x, power(uint(m.Intn(520)), 1))
		}
		switch at := m.Intn(3*len(c.Terms) + 3); {
		case at < len(c.Terms):
			c.Terms[at].C = normal(x)
		case at == len(c.Terms):
			c.K = normal(minus(x))
		}
		l[i] = c
	}
	return l
}

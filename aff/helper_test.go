package aff_test

import (
	"math/big"
	"math/rand"
	"slices"
	"strings"
	"testing"

	"pantograph/aff"
	"pantograph/api"
	"pantograph/expr"
)

const most = 1<<32 - 1

func times(s string, n int) string { return strings.Repeat(s, n) }

// ratOf is a number as it is written, normal or not.
func ratOf(neg bool, n, d []uint32) api.Rat { return api.Rat{Neg: neg, N: n, D: d} }

// small is a number of small parts, as they are written.
func small(n int, d uint32) api.Rat {
	if n < 0 {
		return ratOf(true, []uint32{uint32(-n)}, []uint32{d})
	}
	return ratOf(false, []uint32{uint32(n)}, []uint32{d})
}

func whole(n int) api.Rat { return normal(big.NewRat(int64(n), 1)) }

func natural(a []uint32) *big.Int {
	n := new(big.Int)
	for _, limb := range slices.Backward(a) {
		n.Lsh(n, 32)
		n.Or(n, new(big.Int).SetUint64(uint64(limb)))
	}
	return n
}

func limbs(n *big.Int) []uint32 {
	var a []uint32
	for n = new(big.Int).Abs(n); n.Sign() > 0; n.Rsh(n, 32) {
		a = append(a, uint32(new(big.Int).And(n, big.NewInt(most)).Uint64()))
	}
	return a
}

// value is a number of the library: what the answers are held against is
// worked out without the packages of the project.
func value(a api.Rat) *big.Rat {
	n, d := natural(a.N), natural(a.D)
	if d.Sign() == 0 {
		return new(big.Rat)
	}
	if a.Neg {
		n.Neg(n)
	}
	return new(big.Rat).SetFrac(n, d)
}

// normal is a number of the library as the document writes it.
func normal(x *big.Rat) api.Rat {
	return ratOf(x.Sign() < 0, limbs(x.Num()), limbs(x.Denom()))
}

// alike tells whether two numbers are written alike, limb by limb.
func alike(a, b api.Rat) bool {
	return a.Neg == b.Neg && slices.Equal(a.N, b.N) && slices.Equal(a.D, b.D)
}

// alikeSums does so of two sums.
func alikeSums(a, b api.Con) bool {
	return a.Strength == b.Strength && alike(a.K, b.K) && slices.EqualFunc(a.Terms, b.Terms, func(x, y api.Term) bool {
		return x.Var == y.Var && alike(x.C, y.C)
	})
}

func con(strength int, k api.Rat, terms ...api.Term) api.Con {
	return api.Con{Strength: strength, Terms: terms, K: k}
}

func term(place int, c api.Rat) api.Term { return api.Term{Var: place, C: c} }

// row are terms of whole numbers: a variable and its number by turns.
func row(pairs ...int) []api.Term {
	var list []api.Term
	for i := 0; i < len(pairs); i += 2 {
		list = append(list, term(pairs[i], whole(pairs[i+1])))
	}
	return list
}

func expectSum(t *testing.T, got, want api.Con, what string, args ...any) {
	t.Helper()
	if !alikeSums(got, want) {
		t.Fatal(what, args, "is", got, "not", want)
	}
}

func expectNumber(t *testing.T, got, want api.Rat, what string, args ...any) {
	t.Helper()
	if !alike(got, want) {
		t.Fatal(what, args, "is", got, "not", want)
	}
}

// rough are numbers at which something may go wrong: most are not normal.
func rough() []api.Rat {
	return []api.Rat{
		{}, {Neg: true}, whole(0), small(0, 5), ratOf(true, nil, []uint32{1}), small(5, 0), small(-5, 0), ratOf(true, []uint32{5, 6}, nil), ratOf(false, []uint32{5}, []uint32{0, 0}),
		whole(1), whole(-1), small(2, 2), small(-3, 3), small(6, 4), small(-6, 4), small(3, 2), small(-1, 3), small(2, 3), whole(2), whole(-7),
		ratOf(false, []uint32{3, 0}, []uint32{2, 0, 0}), ratOf(true, []uint32{0, 1, 0}, []uint32{3, 0}), ratOf(false, []uint32{most, most}, []uint32{0, 1}), ratOf(true, []uint32{1}, []uint32{0, 6}),
		ratOf(true, slices.Repeat([]uint32{most}, 20), slices.Repeat([]uint32{5}, 17)),
	}
}

func roughOne(r *rand.Rand) api.Rat { return rough()[r.Intn(len(rough()))] }

// tree is an expression of a text of the tests.
func tree(s string) api.Expr {
	e, _, err := expr.Parse(s)
	if err != api.OK {
		panic("the test's expression is none: " + s)
	}
	return e
}

func named(s string) api.Expr { return api.Expr{Kind: api.ExprName, Name: s} }

func node(kind int, kids ...api.Expr) api.Expr { return api.Expr{Kind: kind, Kids: kids} }

// usual is what names mean in most of the tests: x, y and z are variables, k
// is 2, j is -3, h is 1/3, o is 0.
func usual() aff.Env {
	return aff.Env{Vars: []string{"x", "y", "z"}, Names: []string{"k", "j", "h", "o"}, Vals: []api.Rat{whole(2), whole(-3), small(1, 3), whole(0)}}
}

// inWords is a sum of the usual variables: each number and its variable, then
// K.
func inWords(a api.Con) string {
	text := ""
	for _, t := range a.Terms {
		text += value(t.C).RatString() + usual().Vars[t.Var] + " "
	}
	return text + value(a.K).RatString()
}

// grown is a tree of so many nodes, of the first kinds of two Kids and of Neg,
// that is not deep.
func grown(r *rand.Rand, nodes int, leaves []api.Expr, kinds int) api.Expr {
	if nodes <= 1 {
		return leaves[r.Intn(len(leaves))]
	}
	if nodes == 2 || r.Intn(12) == 0 {
		return node(api.ExprNeg, grown(r, nodes-1, leaves, kinds))
	}
	left := min(1+(nodes-2)*(1+r.Intn(3))/4, nodes-2)
	return node(api.ExprAdd+r.Intn(kinds), grown(r, left, leaves, kinds), grown(r, nodes-1-left, leaves, kinds))
}

// few are all trees of some leaves that are at most so deep.
func few(deep int, leaves []api.Expr) []api.Expr {
	list := leaves
	for range deep - 1 {
		next := slices.Clone(leaves)
		for _, x := range list {
			next = append(next, node(api.ExprNeg, x))
			for _, y := range list {
				for kind := api.ExprAdd; kind <= api.ExprDiv; kind++ {
					next = append(next, node(kind, x, y))
				}
			}
		}
		list = next
	}
	return list
}

func leavesOf(names ...string) []api.Expr {
	var list []api.Expr
	for _, name := range names {
		list = append(list, tree(name))
	}
	return list
}

// badExprs are expressions that may not be.
func badExprs() []api.Expr {
	x, k, one := named("x"), named("k"), tree("1")
	withNum := func(e api.Expr, a api.Rat) api.Expr {
		e.Num = a
		return e
	}
	list := []api.Expr{
		{}, {Kind: -1}, {Kind: 8}, {Kind: 8, Kids: []api.Expr{x}}, {Kind: 8, Kids: []api.Expr{x, k}}, {Kind: 0, Name: "x"}, {Kind: 1 << 40, Kids: []api.Expr{x, k}},
		{Kind: api.ExprNum}, {Kind: api.ExprNum, Name: "x", Num: whole(1)}, node(api.ExprNum, x), {Kind: api.ExprNum, Num: whole(1), Kids: []api.Expr{x}},
		withNum(one, small(2, 2)), withNum(one, small(1, 3)), withNum(one, small(0, 5)), withNum(one, small(1, 0)), withNum(one, whole(-1)), withNum(one, ratOf(false, slices.Repeat([]uint32{1}, api.MaxLimbs+1), []uint32{1})),
		named(""), named("X"), named("x y"), named("\xff"), named(times("x", api.MaxName+1)), withNum(x, whole(1)), {Kind: api.ExprName, Name: "x", Kids: []api.Expr{k}},
		{Kind: api.ExprAdd, Name: "x", Kids: []api.Expr{x, k}}, withNum(node(api.ExprNeg, x), whole(1)), node(api.ExprNeg), node(api.ExprNeg, x, k),
	}
	for kind := api.ExprAdd; kind <= api.ExprDiv; kind++ {
		list = append(list, node(kind), node(kind, x), node(kind, x, k, k), node(kind, x, api.Expr{}), node(kind, api.Expr{}, k))
	}
	deep, wide := x, x
	for range api.MaxDeep {
		deep = node(api.ExprNeg, deep)
	}
	for range 8 {
		wide = node(api.ExprAdd, wide, wide)
	}
	return append(list, deep, wide)
}

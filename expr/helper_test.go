package expr_test

import (
	"math/big"
	"math/rand"
	"slices"
	"strings"

	"pantograph/api"
)

const most = 1<<32 - 1

// tree is an expression of the tests: what the answers are held against is
// worked out on trees, without the packages of the project.
type tree struct {
	kind int
	num  *big.Rat
	name string
	kids []tree
}

func number(s string) tree {
	x, ok := new(big.Rat).SetString(s)
	if !ok {
		panic("the test's number is none: " + s)
	}
	return tree{kind: api.ExprNum, num: x}
}

func named(s string) tree { return tree{kind: api.ExprName, name: s} }
func neg(x tree) tree     { return tree{kind: api.ExprNeg, kids: []tree{x}} }
func add(l, r tree) tree  { return two(api.ExprAdd, l, r) }
func sub(l, r tree) tree  { return two(api.ExprSub, l, r) }
func mul(l, r tree) tree  { return two(api.ExprMul, l, r) }
func div(l, r tree) tree  { return two(api.ExprDiv, l, r) }

func two(kind int, l, r tree) tree { return tree{kind: kind, kids: []tree{l, r}} }

func (t tree) depth() int {
	deep := 0
	for _, kid := range t.kids {
		deep = max(deep, kid.depth())
	}
	return 1 + deep
}

func (t tree) nodes() int {
	n := 1
	for _, kid := range t.kids {
		n += kid.nodes()
	}
	return n
}

// names are all of them, as often as they stand.
func (t tree) names() []string {
	var list []string
	if t.kind == api.ExprName {
		list = append(list, t.name)
	}
	for _, kid := range t.kids {
		list = append(list, kid.names()...)
	}
	return list
}

func once(list []string) []string {
	var all []string
	for _, s := range list {
		if !slices.Contains(all, s) {
			all = append(all, s)
		}
	}
	return all
}

// mayBe is asked of trees that a reader makes: their kinds and Kids fit.
func (t tree) mayBe() bool {
	if t.depth() > api.MaxDeep || t.nodes() > api.MaxNodes {
		return false
	}
	return t.hasNumbers()
}

// hasNumbers tells whether all numbers may be.
func (t tree) hasNumbers() bool {
	if t.kind == api.ExprNum && !numberMayBe(t.num) {
		return false
	}
	return !slices.ContainsFunc(t.kids, func(kid tree) bool { return !kid.hasNumbers() })
}

func numberMayBe(x *big.Rat) bool {
	tens := new(big.Int).Exp(big.NewInt(10), big.NewInt(60), nil)
	isExact := tens.Mod(tens, x.Denom()).Sign() == 0
	return x.Sign() >= 0 && isExact && x.Num().BitLen() <= 32*api.MaxLimbs && x.Denom().BitLen() <= 32*api.MaxLimbs
}

func limbs(n *big.Int) []uint32 {
	var a []uint32
	for n = new(big.Int).Abs(n); n.Sign() > 0; n.Rsh(n, 32) {
		a = append(a, uint32(new(big.Int).And(n, big.NewInt(most)).Uint64()))
	}
	return a
}

func ratOf(neg bool, n, d []uint32) api.Rat { return api.Rat{Neg: neg, N: n, D: d} }

// small is a number of small parts, as they are written.
func small(n int, d uint32) api.Rat {
	if n < 0 {
		return ratOf(true, []uint32{uint32(-n)}, []uint32{d})
	}
	return ratOf(false, []uint32{uint32(n)}, []uint32{d})
}

func normal(x *big.Rat) api.Rat { return ratOf(x.Sign() < 0, limbs(x.Num()), limbs(x.Denom())) }

// exprOf is a tree as an expression.
func exprOf(t tree) api.Expr {
	e := api.Expr{Kind: t.kind, Name: t.name}
	if t.kind == api.ExprNum {
		e.Num = normal(t.num)
	}
	for _, kid := range t.kids {
		e.Kids = append(e.Kids, exprOf(kid))
	}
	return e
}

// alike tells whether two expressions are written alike, field by field and
// limb by limb.
func alike(a, b api.Expr) bool {
	return a.Kind == b.Kind && a.Name == b.Name && a.Num.Neg == b.Num.Neg &&
		slices.Equal(a.Num.N, b.Num.N) && slices.Equal(a.Num.D, b.Num.D) && slices.EqualFunc(a.Kids, b.Kids, alike)
}

// text is how a tree is printed, and its row.
func (t tree) text() (string, int) {
	at := func(i, asked int) string {
		s, row := t.kids[i].text()
		if row < asked {
			return "(" + s + ")"
		}
		return s
	}
	switch t.kind {
	case api.ExprAdd:
		return at(0, 1) + " + " + at(1, 2), 1
	case api.ExprSub:
		return at(0, 1) + " - " + at(1, 2), 1
	case api.ExprMul:
		return at(0, 2) + " * " + at(1, 3), 2
	case api.ExprDiv:
		return at(0, 2) + " / " + at(1, 3), 2
	case api.ExprNeg:
		return "-" + at(0, 3), 3
	case api.ExprNum:
		return decimal(t.num), 4
	}
	return t.name, 4
}

// decimal is a number that 60 digits tell.
func decimal(x *big.Rat) string {
	s := strings.TrimRight(x.FloatString(60), "0")
	return strings.TrimSuffix(s, ".")
}

// lone are trees without Kids that may be, at their edges too.
func lone() []tree {
	greatest := new(big.Int).Lsh(big.NewInt(1), 32*api.MaxLimbs)
	greatest.Sub(greatest, big.NewInt(1))
	return []tree{
		number("0"), number("1"), number("10"), number("0.5"), number("12.34"), number("0.125"), number("4294967296"), number(greatest.String()),
		number("0." + strings.Repeat("0", 59) + "1"), number(strings.Repeat("7", 90) + "." + strings.Repeat("3", 60)),
		named("a"), named("z"), named("b2"), named("x_y"), named("c_"), named("a" + strings.Repeat("9", api.MaxName-1)), named(strings.Repeat("z", api.MaxName)),
	}
}

var leaves = lone()

// grown is a tree of some so many nodes, of all kinds.
func grown(r *rand.Rand, nodes int) tree {
	if nodes <= 1 {
		return leaves[r.Intn(len(leaves))]
	}
	if nodes == 2 || r.Intn(5) == 0 {
		return neg(grown(r, nodes-1))
	}
	left := 1 + r.Intn(nodes-2)
	return two(api.ExprAdd+r.Intn(4), grown(r, left), grown(r, nodes-1-left))
}

// full is a tree of just so many nodes that is as flat as it can be.
func full(nodes int) tree {
	switch nodes {
	case 1:
		return named("a")
	case 2:
		return neg(named("a"))
	}
	left := (nodes - 1) / 2
	return two(api.ExprAdd+nodes%4, full(left), full(nodes-1-left))
}

// chains are trees of n nodes ahead of a leaf, each within the last one.
func chains(n int, leaf tree) []tree {
	steps := []func(x tree) tree{
		neg,
		func(x tree) tree { return add(x, named("b")) },
		func(x tree) tree { return sub(number("1"), x) },
		func(x tree) tree { return mul(x, number("0.5")) },
		func(x tree) tree { return div(named("c"), x) },
	}
	list := make([]tree, len(steps)+2)
	for i := range list {
		list[i] = leaf
		for k := range n {
			step := i
			if i >= len(steps) {
				step = k * (i - len(steps) + 1) % len(steps)
			}
			list[i] = steps[step](list[i])
		}
	}
	return list
}

// few are trees of all kinds, each in each place of each.
func few() []tree {
	flat := []tree{named("a"), number("2.5")}
	all := []tree{named("b"), number("3")}
	for range 2 {
		kids := slices.Clone(all)
		for _, x := range kids {
			all = append(all, neg(x))
			for kind := api.ExprAdd; kind <= api.ExprDiv; kind++ {
				for _, y := range flat {
					all = append(all, two(kind, x, y), two(kind, y, x))
				}
				all = append(all, two(kind, x, kids[len(kids)-1]), two(kind, kids[len(kids)-2], x))
			}
		}
	}
	return all
}

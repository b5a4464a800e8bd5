package check_test

import (
	"math/rand"
	"slices"
	"strconv"
	"strings"

	"pantograph/api"
	"pantograph/expr"
	"pantograph/sheet"
)

func times(s string, n int) string { return strings.Repeat(s, n) }

// tree is an expression of a text of the tests.
func tree(s string) api.Expr {
	e, _, err := expr.Parse(s)
	if err != api.OK {
		panic("the test's expression is none: " + s)
	}
	return e
}

// form is a form of lines of the tests.
func form(lines ...string) api.Form {
	text := strings.Join(lines, "\n")
	f, line, err := sheet.Parse(text)
	if err != api.OK {
		panic("line " + strconv.Itoa(line) + " of the test's form is none:\n" + text)
	}
	return f
}

func named(s string) api.Expr     { return api.Expr{Kind: api.ExprName, Name: s} }
func neg(x api.Expr) api.Expr     { return node(api.ExprNeg, x) }
func add(l, r api.Expr) api.Expr  { return node(api.ExprAdd, l, r) }
func sub(l, r api.Expr) api.Expr  { return node(api.ExprSub, l, r) }
func mul(l, r api.Expr) api.Expr  { return node(api.ExprMul, l, r) }
func quot(l, r api.Expr) api.Expr { return node(api.ExprDiv, l, r) }

func node(kind int, kids ...api.Expr) api.Expr { return api.Expr{Kind: kind, Kids: kids} }

func number(n, d uint32) api.Expr {
	return api.Expr{Kind: api.ExprNum, Num: api.Rat{N: []uint32{n}, D: []uint32{d}}}
}

// nodesOf are all nodes of a tree.
func nodesOf(e api.Expr) []api.Expr {
	list := []api.Expr{e}
	for _, kid := range e.Kids {
		list = append(list, nodesOf(kid)...)
	}
	return list
}

// hasOne is what Has is to answer.
func hasOne(e api.Expr, fields []string) bool {
	return slices.ContainsFunc(nodesOf(e), func(x api.Expr) bool {
		return x.Kind == api.ExprName && slices.Contains(fields, x.Name)
	})
}

// isLinear is what Linear is to answer: it asks each node anew. Where one that
// may not be has more than two Kids, all of them are factors, and all but the
// first are divisors.
func isLinear(e api.Expr, fields []string) bool {
	with := func(kids []api.Expr) int {
		count := 0
		for _, kid := range kids {
			if hasOne(kid, fields) {
				count++
			}
		}
		return count
	}
	return !slices.ContainsFunc(nodesOf(e), func(x api.Expr) bool {
		return x.Kind == api.ExprMul && with(x.Kids) > 1 || x.Kind == api.ExprDiv && len(x.Kids) > 1 && with(x.Kids[1:]) > 0
	})
}

// chain is n nodes of one kind ahead of a leaf, each within the last one, on
// the left or on the right of another leaf.
func chain(kind, n int, leaf, other api.Expr, isLeft bool) api.Expr {
	for range n {
		switch {
		case kind == api.ExprNeg:
			leaf = node(kind, leaf)
		case isLeft:
			leaf = node(kind, leaf, other)
		default:
			leaf = node(kind, other, leaf)
		}
	}
	return leaf
}

// grownExpr is a tree of some so many nodes, of all kinds, that is not deep.
func grownExpr(r *rand.Rand, nodes int, leaves []api.Expr) api.Expr {
	if nodes <= 1 {
		return leaves[r.Intn(len(leaves))]
	}
	if nodes == 2 {
		return neg(grownExpr(r, 1, leaves))
	}
	left := 1 + (nodes-2)*(1+r.Intn(3))/4
	left = min(left, nodes-2)
	return node(api.ExprAdd+r.Intn(4), grownExpr(r, left, leaves), grownExpr(r, nodes-1-left, leaves))
}

// few are all trees of some leaves that are at most three deep.
func few(leaves []api.Expr) []api.Expr {
	list := leaves
	for range 2 {
		next := slices.Clone(leaves)
		for _, x := range list {
			next = append(next, neg(x))
			for _, y := range list {
				next = append(next, add(x, y), sub(x, y), mul(x, y), quot(x, y))
			}
		}
		list = next
	}
	return list
}

// badExprs are expressions that may not be.
func badExprs() []api.Expr {
	x, y, k := named("x"), named("y"), named("k")
	withKids := func(e api.Expr, kids ...api.Expr) api.Expr {
		e.Kids = kids
		return e
	}
	list := []api.Expr{
		{}, {Kind: -1}, {Kind: 8, Kids: []api.Expr{x}}, {Kind: 1 << 40, Kids: []api.Expr{x, y}}, {Kind: 0, Name: "x"}, {Kind: 8, Name: "x"},
		{Kind: api.ExprNum}, {Kind: api.ExprNum, Name: "x"}, withKids(number(1, 1), x, y), number(2, 4), number(1, 3), number(0, 1), number(1, 0),
		{Kind: api.ExprNum, Num: api.Rat{Neg: true, N: []uint32{1}, D: []uint32{1}}}, {Kind: api.ExprNum, Num: api.Rat{N: slices.Repeat([]uint32{1}, api.MaxLimbs+1), D: []uint32{1}}},
		named(""), named("X"), named("x y"), named("\xff"), named(times("x", api.MaxName+1)), withKids(x, y), withKids(k, x, y), withKids(k, mul(x, y)), {Kind: api.ExprName, Name: "x", Num: number(1, 1).Num},
		{Kind: api.ExprMul, Name: "x", Kids: []api.Expr{y, k}}, {Kind: api.ExprNeg, Name: "x", Kids: []api.Expr{k}}, {Kind: api.ExprDiv, Name: "x", Kids: []api.Expr{k, k}},
		chain(api.ExprNeg, api.MaxDeep, x, k, true), chain(api.ExprMul, api.MaxDeep, x, k, true), chain(api.ExprDiv, api.MaxDeep, x, k, false),
	}
	for kind := api.ExprAdd; kind <= api.ExprNeg; kind++ {
		list = append(list, node(kind), node(kind, x, y, k), node(kind, k, x, x), node(kind, x, k, y), node(kind, k, k, x), node(kind, k, k, k))
		list = append(list, node(kind, x, api.Expr{}), node(kind, api.Expr{Kind: 9}, y), node(kind, named("X"), number(3, 3)))
		if kind == api.ExprNeg {
			list = append(list, node(kind, x, y), node(kind, k, x))
		} else {
			list = append(list, node(kind, x), node(kind, k))
		}
	}
	return list
}

package aff_test

import (
	"maps"
	"math/big"
	"slices"

	"pantograph/aff"
	"pantograph/api"
)

// line is a sum of the tests: no variable's number is 0.
type line struct {
	c map[int]*big.Rat
	k *big.Rat
}

// lineOf is a sum of any terms, in any order.
func lineOf(a api.Con) line {
	l := line{map[int]*big.Rat{}, value(a.K)}
	for _, t := range a.Terms {
		l = l.plus(line{map[int]*big.Rat{t.Var: value(t.C)}, new(big.Rat)})
	}
	return l
}

func (l line) plus(m line) line {
	both := line{maps.Clone(l.c), new(big.Rat).Add(l.k, m.k)}
	for place, c := range m.c {
		sum := new(big.Rat).Set(c)
		if was := both.c[place]; was != nil {
			sum.Add(sum, was)
		}
		both.c[place] = sum
	}
	maps.DeleteFunc(both.c, func(_ int, c *big.Rat) bool { return c.Sign() == 0 })
	return both
}

func (l line) times(by *big.Rat) line {
	all := line{map[int]*big.Rat{}, new(big.Rat).Mul(l.k, by)}
	for place, c := range l.c {
		if by.Sign() != 0 {
			all.c[place] = new(big.Rat).Mul(c, by)
		}
	}
	return all
}

// at is what it comes to; a variable without a number is 0.
func (l line) at(val []api.Rat) *big.Rat {
	sum := new(big.Rat).Set(l.k)
	for place, c := range l.c {
		if place >= 0 && place < len(val) {
			sum.Add(sum, new(big.Rat).Mul(c, value(val[place])))
		}
	}
	return sum
}

// con is how the document writes it.
func (l line) con(strength int) api.Con {
	a := api.Con{Strength: strength, K: normal(l.k)}
	for _, place := range slices.Sorted(maps.Keys(l.c)) {
		a.Terms = append(a.Terms, api.Term{Var: place, C: normal(l.c[place])})
	}
	return a
}

// inOrder are the nodes of a tree, each behind its Kids.
func inOrder(e api.Expr) []api.Expr {
	var list []api.Expr
	for _, kid := range e.Kids {
		list = append(list, inOrder(kid)...)
	}
	return append(list, e)
}

// said is what Of is to answer of an expression that may be: its nodes stand in
// a row, and the first that errs ends it. Lines wait on a heap.
func said(e api.Expr, of func(name string) (line, bool)) (line, api.Errno) {
	var heap []line
	for _, x := range inOrder(e) {
		first := len(heap) - len(x.Kids)
		kids := heap[first:]
		l, err := saidOf(x, kids, of)
		if err != api.OK {
			return line{}, err
		}
		heap = append(heap[:first:first], l)
	}
	return heap[0], api.OK
}

func saidOf(x api.Expr, kids []line, of func(name string) (line, bool)) (line, api.Errno) {
	minus := big.NewRat(-1, 1)
	switch x.Kind {
	case api.ExprNum:
		return line{k: value(x.Num)}, api.OK
	case api.ExprName:
		l, known := of(x.Name)
		if !known {
			return line{}, api.ErrName
		}
		return l, api.OK
	case api.ExprNeg:
		return kids[0].times(minus), api.OK
	case api.ExprAdd:
		return line{map[int]*big.Rat{}, new(big.Rat)}.plus(kids[0]).plus(kids[1]), api.OK
	case api.ExprSub:
		return kids[1].times(minus).plus(kids[0]), api.OK
	case api.ExprMul:
		if len(kids[0].c) > 0 && len(kids[1].c) > 0 {
			return line{}, api.ErrLinear
		}
		if len(kids[0].c) > 0 {
			return kids[0].times(kids[1].k), api.OK
		}
		return kids[1].times(kids[0].k), api.OK
	}
	if len(kids[1].c) > 0 {
		return line{}, api.ErrLinear
	}
	if kids[1].k.Sign() == 0 {
		return line{}, api.ErrZero
	}
	return kids[0].times(new(big.Rat).Inv(kids[1].k)), api.OK
}

// meant is what a name is to mean: what stands at its place in a list of
// variables, else in a list of numbers.
func meant(v aff.Env, variable func(place int) line) func(name string) (line, bool) {
	return func(name string) (line, bool) {
		for place, other := range v.Vars {
			if other == name {
				return variable(place), true
			}
		}
		for place, other := range v.Names {
			if other == name {
				return line{k: numberAt(v.Vals, place)}, true
			}
		}
		return line{}, false
	}
}

func numberAt(list []api.Rat, place int) *big.Rat {
	if place < len(list) {
		return value(list[place])
	}
	return new(big.Rat)
}

// saidSum is what Of is to answer.
func saidSum(e api.Expr, v aff.Env) (api.Con, api.Errno) {
	l, err := said(e, meant(v, func(place int) line {
		return line{map[int]*big.Rat{place: big.NewRat(1, 1)}, new(big.Rat)}
	}))
	if err != api.OK {
		return api.Con{}, err
	}
	return l.con(0), api.OK
}

// saidNumber is what Value is to answer.
func saidNumber(e api.Expr, v aff.Env, at []api.Rat) (api.Rat, api.Errno) {
	l, err := said(e, meant(v, func(place int) line { return line{k: numberAt(at, place)} }))
	if err != api.OK {
		return api.Rat{}, err
	}
	return normal(l.k), api.OK
}

package sheet_test

import (
	"math/big"
	"math/rand"
	"slices"
	"strconv"
	"strings"

	"pantograph/api"
)

const most = 1<<32 - 1

func times(s string, n int) string { return strings.Repeat(s, n) }

func ratOf(neg bool, n, d []uint32) api.Rat { return api.Rat{Neg: neg, N: n, D: d} }

// small is a number of small parts, as they are written; 0 has no limb.
func small(n int, d uint32) api.Rat {
	a := ratOf(n < 0, []uint32{uint32(max(n, -n))}, []uint32{d})
	if n == 0 {
		a.N = nil
	}
	return a
}

func limbs(n *big.Int) []uint32 {
	var a []uint32
	for n = new(big.Int).Abs(n); n.Sign() > 0; n.Rsh(n, 32) {
		a = append(a, uint32(new(big.Int).And(n, big.NewInt(most)).Uint64()))
	}
	return a
}

func bigInt(a []uint32) *big.Int {
	n := new(big.Int)
	for _, limb := range slices.Backward(a) {
		n.Lsh(n, 32).Or(n, big.NewInt(int64(limb)))
	}
	return n
}

// bigRat is asked of numbers whose D is not 0.
func bigRat(a api.Rat) *big.Rat {
	x := new(big.Rat).SetFrac(bigInt(a.N), bigInt(a.D))
	if a.Neg {
		x.Neg(x)
	}
	return x
}

// written is a number of a text of the tests, normal.
func written(s string) api.Rat {
	x, ok := new(big.Rat).SetString(s)
	if !ok {
		panic("the test's number is none: " + s)
	}
	return ratOf(x.Sign() < 0, limbs(x.Num()), limbs(x.Denom()))
}

func named(s string) api.Expr     { return api.Expr{Kind: api.ExprName, Name: s} }
func number(s string) api.Expr    { return api.Expr{Kind: api.ExprNum, Num: written(s)} }
func neg(x api.Expr) api.Expr     { return api.Expr{Kind: api.ExprNeg, Kids: []api.Expr{x}} }
func add(l, r api.Expr) api.Expr  { return two(api.ExprAdd, l, r) }
func sub(l, r api.Expr) api.Expr  { return two(api.ExprSub, l, r) }
func mul(l, r api.Expr) api.Expr  { return two(api.ExprMul, l, r) }
func quot(l, r api.Expr) api.Expr { return two(api.ExprDiv, l, r) }

func two(kind int, l, r api.Expr) api.Expr { return api.Expr{Kind: kind, Kids: []api.Expr{l, r}} }

// greatest has as many limbs as a number may have.
func greatest() []uint32 {
	a := make([]uint32, api.MaxLimbs)
	for i := range a {
		a[i] = most
	}
	return a
}

// chain is n nodes ahead of a leaf, each within the last one.
func chain(n int, leaf api.Expr) api.Expr {
	for i := range n {
		if i%3 == 0 {
			leaf = neg(leaf)
		} else {
			leaf = sub(number("1"), leaf)
		}
	}
	return leaf
}

// flat is a tree of so many nodes that is not deep.
func flat(nodes int) api.Expr {
	if nodes < 3 {
		return []api.Expr{named("a"), neg(named("a"))}[nodes-1]
	}
	left := (nodes - 1) / 2
	return two(api.ExprAdd+nodes%4, flat(left), flat(nodes-1-left))
}

// goodExprs are expressions that may be, at their edges too.
func goodExprs() []api.Expr {
	a, b := named("a"), named("b")
	return []api.Expr{
		a, b, named("total_2"), named(times("z", api.MaxName)), number("0"), number("1"), number("2.5"), number("0.125"), ratExpr(ratOf(false, greatest(), []uint32{1})),
		neg(a), add(a, b), sub(a, b), mul(a, b), quot(a, b), sub(a, sub(b, number("1"))), mul(add(a, b), number("0.5")), neg(sub(a, neg(b))), chain(31, a), flat(256),
	}
}

func ratExpr(a api.Rat) api.Expr { return api.Expr{Kind: api.ExprNum, Num: a} }

// badExprs are expressions that may not be.
func badExprs() []api.Expr {
	a := named("a")
	return []api.Expr{
		{}, {Kind: 8, Kids: []api.Expr{a}}, {Kind: -1}, {Kind: api.ExprNum}, {Kind: api.ExprNeg}, {Kind: api.ExprAdd, Kids: []api.Expr{a}}, {Kind: api.ExprNeg, Kids: []api.Expr{a, a}}, {Kind: api.ExprName, Name: "a", Kids: []api.Expr{a}},
		named(""), named("A"), named("a b"), named(times("z", api.MaxName+1)), {Kind: api.ExprName, Name: "a", Num: small(1, 1)}, {Kind: api.ExprNum, Num: small(1, 1), Name: "a"},
		ratExpr(small(-1, 1)), ratExpr(small(1, 3)), ratExpr(small(2, 4)), ratExpr(ratOf(false, []uint32{1, 0}, []uint32{1})), ratExpr(ratOf(false, append(greatest(), 1), []uint32{1})),
		add(a, api.Expr{}), neg(named("")), chain(32, a), flat(257),
	}
}

// goodVals are numbers that a param may have.
func goodVals() []api.Rat {
	one := []uint32{1}
	return []api.Rat{
		small(0, 1), small(1, 1), small(-1, 1), small(1, 2), small(-5, 2), small(1, 3), small(-22, 7), small(10, 9), ratOf(false, []uint32{0, 1}, one), ratOf(true, one, []uint32{0, 1}),
		ratOf(false, greatest(), one), ratOf(true, one, greatest()), ratOf(true, greatest(), append([]uint32{most - 1}, greatest()[1:]...)), ratOf(false, []uint32{}, one),
	}
}

// badVals are numbers that are not normal, or Large.
func badVals() []api.Rat {
	one := []uint32{1}
	long := append(greatest(), 1)
	return []api.Rat{
		{}, ratOf(false, one, nil), ratOf(false, one, []uint32{0}), ratOf(false, nil, []uint32{2}), ratOf(true, nil, one), ratOf(false, []uint32{0}, one), ratOf(false, []uint32{1, 0}, one), ratOf(false, one, []uint32{1, 0}),
		small(2, 2), small(2, 4), small(-6, 3), ratOf(false, greatest(), greatest()), ratOf(false, append(greatest(), 0), one), ratOf(false, long, long), ratOf(true, make([]uint32, 17), one), ratOf(false, nil, make([]uint32, 17)),
		ratOf(false, long, one), ratOf(true, long, one), ratOf(false, one, long), ratOf(false, append(make([]uint32, 16), 1), []uint32{3}), ratOf(false, []uint32{3}, append(make([]uint32, 16), 1)), ratOf(false, long, append(make([]uint32, 16), 1)),
	}
}

func badNames() []string {
	return []string{"A", "aB", "_a", "1", "1a", " ", "a ", " a", "a b", "a\n", "a\nb", "#", "a:", ":", "=", "a\x00", "\xff", "a\u00e9", "-a", times("a", api.MaxName+1), times("a", 1<<16)}
}

// whole is a form that has everything.
func whole() api.Form {
	a, b, c := named("a"), named("b"), named("c")
	return api.Form{
		Switches: []api.Switch{{Name: "s", On: true}, {Name: "t"}},
		Params:   []api.Param{{Name: "p", Val: small(-5, 2)}, {Name: "q", Val: small(7, 1)}},
		Pages:    []api.Page{{Name: "first"}, {Name: "second", When: "s"}, {Name: "third", When: "t"}, {Name: "fourth"}},
		Fields:   []api.Field{{Name: "a", Page: 0}, {Name: "b", Page: 0, Must: true}, {Name: "c", Page: 1, Scale: 2}, {Name: "d", Page: 3, Must: true, Scale: 9}},
		Rules: []api.Rule{
			{Name: "k", Strength: api.Required, L: a, R: mul(b, named("p"))},
			{Name: "l", Strength: api.Strong, When: "t", L: add(a, c), R: number("0")},
			{Name: "m", Strength: api.Medium, L: named("d"), R: neg(quot(a, number("4")))},
			{Name: "n", Strength: api.Weak, When: "s", L: number("2.5"), R: sub(a, sub(b, c))},
		},
		Checks: []api.Check{
			{Name: "u", Page: 0, Cmp: api.CmpEqual, L: a, R: b},
			{Name: "v", Page: 1, Cmp: api.CmpLess, L: neg(a), R: number("1")},
			{Name: "w", Page: 1, Cmp: api.CmpMost, L: number("0.5"), R: mul(add(a, b), c)},
			{Name: "x", Page: 3, Cmp: api.CmpMost, L: named("q"), R: named("d")},
		},
	}
}

// wholeText is how it is printed.
const wholeText = "switch s on\nswitch t off\nparam p -5/2\nparam q 7\n" +
	"page first\nfield a\nfield b must\ncheck u : a = b\n" +
	"page second when s\nfield c scale 2\ncheck v : -a < 1\ncheck w : 0.5 <= (a + b) * c\n" +
	"page third when t\n" +
	"page fourth\nfield d must scale 9\ncheck x : q <= d\n" +
	"rule required k : a = b * p\nrule strong l when t : a + c = 0\nrule medium m : d = -(a / 4)\nrule weak n when s : 2.5 = a - (b - c)\n"

// alikeExpr tells whether two expressions are written alike, limb by limb.
func alikeExpr(a, b api.Expr) bool {
	return a.Kind == b.Kind && a.Name == b.Name && alikeRat(a.Num, b.Num) && slices.EqualFunc(a.Kids, b.Kids, alikeExpr)
}

func alikeRat(a, b api.Rat) bool {
	return a.Neg == b.Neg && slices.Equal(a.N, b.N) && slices.Equal(a.D, b.D)
}

// alike tells whether two forms are written alike, limb by limb.
func alike(a, b api.Form) bool {
	return slices.Equal(a.Switches, b.Switches) && slices.Equal(a.Pages, b.Pages) && slices.Equal(a.Fields, b.Fields) &&
		slices.EqualFunc(a.Params, b.Params, func(x, y api.Param) bool { return x.Name == y.Name && alikeRat(x.Val, y.Val) }) &&
		slices.EqualFunc(a.Rules, b.Rules, func(x, y api.Rule) bool {
			return x.Name == y.Name && x.Strength == y.Strength && x.When == y.When && alikeExpr(x.L, y.L) && alikeExpr(x.R, y.R)
		}) &&
		slices.EqualFunc(a.Checks, b.Checks, func(x, y api.Check) bool {
			return x.Name == y.Name && x.Page == y.Page && x.Cmp == y.Cmp && alikeExpr(x.L, y.L) && alikeExpr(x.R, y.R)
		})
}

func isEmpty(f api.Form) bool { return alike(f, api.Form{}) }

// copied shares no list with a form.
func copied(f api.Form) api.Form {
	f.Switches, f.Pages, f.Fields = slices.Clone(f.Switches), slices.Clone(f.Pages), slices.Clone(f.Fields)
	f.Params, f.Rules, f.Checks = slices.Clone(f.Params), slices.Clone(f.Rules), slices.Clone(f.Checks)
	for i, x := range f.Params {
		f.Params[i].Val = copiedRat(x.Val)
	}
	for i, x := range f.Rules {
		f.Rules[i].L, f.Rules[i].R = copiedExpr(x.L), copiedExpr(x.R)
	}
	for i, x := range f.Checks {
		f.Checks[i].L, f.Checks[i].R = copiedExpr(x.L), copiedExpr(x.R)
	}
	return f
}

func copiedRat(a api.Rat) api.Rat { return ratOf(a.Neg, slices.Clone(a.N), slices.Clone(a.D)) }

func copiedExpr(e api.Expr) api.Expr {
	e.Num, e.Kids = copiedRat(e.Num), slices.Clone(e.Kids)
	for i, kid := range e.Kids {
		e.Kids[i] = copiedExpr(kid)
	}
	return e
}

// with is a copy of a form in which something is otherwise.
func with(f api.Form, change func(f *api.Form)) api.Form {
	f = copied(f)
	change(&f)
	return f
}

// exprText is how an expression that may be is printed, and its row.
func exprText(e api.Expr) (string, int) {
	at := func(i, asked int) string {
		s, row := exprText(e.Kids[i])
		if row < asked {
			return "(" + s + ")"
		}
		return s
	}
	switch e.Kind {
	case api.ExprNum:
		return strings.TrimSuffix(strings.TrimRight(bigRat(e.Num).FloatString(60), "0"), "."), 4
	case api.ExprName:
		return e.Name, 4
	case api.ExprNeg:
		return "-" + at(0, 3), 3
	}
	row := 1 + (e.Kind-api.ExprAdd)/2
	return at(0, row) + [...]string{" + ", " - ", " * ", " / "}[e.Kind-api.ExprAdd] + at(1, row+1), row
}

// formText is how a form that may be is printed, however long it is.
func formText(f api.Form) string {
	var lines []string
	line := func(words ...string) {
		words = slices.DeleteFunc(words, func(s string) bool { return s == "" })
		lines = append(lines, strings.Join(words, " ")+"\n")
	}
	text := func(e api.Expr) string { s, _ := exprText(e); return s }
	when := func(name string) string { return strings.TrimSuffix("when "+name, "when ") }
	for _, x := range f.Switches {
		line("switch", x.Name, map[bool]string{true: "on", false: "off"}[x.On])
	}
	for _, x := range f.Params {
		line("param", x.Name, bigRat(x.Val).RatString())
	}
	for i, x := range f.Pages {
		line("page", x.Name, when(x.When))
		for _, y := range f.Fields {
			if y.Page == i {
				scale := strings.TrimSuffix("scale "+strconv.Itoa(y.Scale), "scale 0")
				line("field", y.Name, map[bool]string{true: "must"}[y.Must], scale)
			}
		}
		for _, y := range f.Checks {
			if y.Page == i {
				line("check", y.Name, ":", text(y.L), []string{"=", "<", "<="}[y.Cmp], text(y.R))
			}
		}
	}
	for _, x := range f.Rules {
		line("rule", []string{"required", "strong", "medium", "weak"}[x.Strength], x.Name, when(x.When), ":", text(x.L), "=", text(x.R))
	}
	return strings.Join(lines, "")
}

// padded is a form with switches ahead, so many that it is printed in just so
// many bytes.
func padded(f api.Form, bytes int) api.Form {
	missing := bytes - len(formText(f))
	var pad []api.Switch
	for missing > 0 {
		// A line has 12 to 35 bytes; what is left is 0, or enough for another.
		size := min(missing, 11+api.MaxName)
		if rest := missing - size; rest > 0 && rest < 12 {
			size -= 12
		}
		pad = append(pad, api.Switch{Name: times("q", size-11), On: true})
		missing -= size
	}
	f.Switches = slices.Concat(pad, f.Switches)
	if len(formText(f)) != bytes {
		panic("the test's form is not padded")
	}
	return f
}

var leaves = goodExprs()[:8]

// grownExpr is an expression that may be, of all kinds.
func grownExpr(r *rand.Rand, nodes int) api.Expr {
	if nodes <= 1 {
		return leaves[r.Intn(len(leaves))]
	}
	if nodes == 2 || r.Intn(5) == 0 {
		return neg(grownExpr(r, nodes-1))
	}
	left := 1 + r.Intn(nodes-2)
	return two(api.ExprAdd+r.Intn(4), grownExpr(r, left), grownExpr(r, nodes-1-left))
}

func grownName(r *rand.Rand) string {
	names := []string{"a", "b", "s", "p", "z9", "x_y", "on", "off", "when", "must", "scale", "page", "rule", "weak", times("n", api.MaxName), "a" + times("0", api.MaxName-1)}
	return names[r.Intn(len(names))]
}

func grownWhen(r *rand.Rand) string {
	if r.Intn(2) == 0 {
		return ""
	}
	return grownName(r)
}

// grown is a form of all kinds of lines, any number of each.
func grown(r *rand.Rand, size int) api.Form {
	var f api.Form
	vals := goodVals()
	for range r.Intn(size) {
		f.Switches = append(f.Switches, api.Switch{Name: grownName(r), On: r.Intn(2) == 0})
	}
	for range r.Intn(size) {
		f.Params = append(f.Params, api.Param{Name: grownName(r), Val: vals[r.Intn(len(vals))]})
	}
	for i := range r.Intn(size) {
		f.Pages = append(f.Pages, api.Page{Name: grownName(r), When: grownWhen(r)})
		for range r.Intn(size) * r.Intn(2) {
			f.Fields = append(f.Fields, api.Field{Name: grownName(r), Page: i, Must: r.Intn(2) == 0, Scale: r.Intn(api.MaxScale+1) * r.Intn(2)})
		}
		for range r.Intn(size) * r.Intn(2) {
			f.Checks = append(f.Checks, api.Check{Name: grownName(r), Page: i, Cmp: r.Intn(3), L: grownExpr(r, 1+r.Intn(9)), R: grownExpr(r, 1+r.Intn(9))})
		}
	}
	for range r.Intn(size) {
		f.Rules = append(f.Rules, api.Rule{Name: grownName(r), Strength: r.Intn(4), When: grownWhen(r), L: grownExpr(r, 1+r.Intn(9)), R: grownExpr(r, 1+r.Intn(9))})
	}
	return f
}

package expr_test

import (
	"math/big"
	"math/rand"
	"regexp"
	"slices"
	"testing"

	"pantograph/api"
	"pantograph/expr"
)

// P5.1
func TestNameByHand(t *testing.T) {
	for _, s := range []string{"a", "z", "ab", "a0", "a9", "a_", "z_z", "a__", "m1_2n", "if", "on", "a" + times("b", 22), "a" + times("b", 23), "z" + times("_", 23), "q" + times("0", 23)} {
		if !expr.Name(s) {
			t.Error("Name refuses", s)
		}
	}
	for _, s := range []string{
		"", "_", "0", "9", "_a", "0a", "A", "Z", "aA", "aZ", "Aa", " ", " a", "a ", "a b", "a-b", "a.b", "a+", "(a)", "-a", "#a", "a\n", "\na", "a\x00", "\x00", "\x00a",
		"`", "{", "a`", "a{", "a@", "a[", "a/", "a:", "`a", "{a", "\xff", "a\xff", "\u00e9", "a\u00e9", "a\u0301", "\u0430", "a\u0661", "\uff41",
		"a" + times("b", 24), "z" + times("_", 24), times("a", 400), times("_", 24), times("9", 24), times("a", 23) + "A", times("a", 23) + "\u00e9", times("a", 1<<20),
	} {
		if expr.Name(s) {
			t.Errorf("Name takes %.60q", s)
		}
	}
}

// P5.1: each byte at each place of names of each length.
func TestNameOfAllBytes(t *testing.T) {
	name := regexp.MustCompile(`\A[a-z][a-z0-9_]{0,23}\z`)
	for n := range 30 {
		for i := range n {
			for b := range 256 {
				s := times("a", i) + string([]byte{byte(b)}) + times("b", n-1-i)
				if expr.Name(s) != name.MatchString(s) {
					t.Fatalf("Name of %q", s)
				}
			}
		}
	}
}

func numOf(a api.Rat) api.Expr { return api.Expr{Kind: api.ExprNum, Num: a} }

func expectIs(t *testing.T, e api.Expr, want bool) {
	t.Helper()
	if expr.Is(e) != want {
		t.Fatal("Is answers", !want, "of", e)
	}
}

// P5.3
func TestIsOfTreesThatMayBe(t *testing.T) {
	for _, x := range slices.Concat(lone(), few(), chains(31, named("a")), chains(30, number("2"))) {
		expectIs(t, exprOf(x), true)
	}
	r := rand.New(rand.NewSource(1))
	for range 2000 {
		x := grown(r, 1+r.Intn(1+r.Intn(280)))
		expectIs(t, exprOf(x), x.mayBe())
	}
}

// P5.3: as deep, and of as many nodes, as may be, and one more.
func TestIsOfTheDeepest(t *testing.T) {
	for n := range 40 {
		for _, x := range chains(n, number("1")) {
			expectIs(t, exprOf(x), n <= 31)
		}
	}
	for nodes := 1; nodes < 600; nodes++ {
		expectIs(t, exprOf(full(nodes)), nodes <= 256)
	}
	// Where a tree is the deepest does not count.
	for _, leaf := range chains(30, named("a")) {
		for kind := api.ExprAdd; kind <= api.ExprDiv; kind++ {
			expectIs(t, exprOf(two(kind, named("b"), leaf)), true)
			expectIs(t, exprOf(two(kind, leaf, named("b"))), true)
			expectIs(t, exprOf(two(kind, named("b"), neg(leaf))), false)
			expectIs(t, exprOf(two(kind, neg(leaf), named("b"))), false)
		}
	}
}

// P5.3: what may be of numbers.
func TestIsOfNumbers(t *testing.T) {
	greatest := make([]uint32, api.MaxLimbs)
	for i := range greatest {
		greatest[i] = most
	}
	one := []uint32{1}
	for _, a := range []api.Rat{
		ratOf(false, nil, one), ratOf(false, []uint32{}, one), small(1, 1), small(1, 2), small(7, 10), small(3, 1000000), small(1, 1<<31), ratOf(false, []uint32{0, 1}, one), ratOf(false, one, []uint32{0, 1}),
		ratOf(false, greatest, one), ratOf(false, greatest, []uint32{2}), ratOf(false, greatest, []uint32{0, 1}), normal(powers(2, -60)), normal(powers(5, -60)), normal(powers(10, -60)),
	} {
		expectIs(t, numOf(a), true)
	}
	long := append(slices.Clone(greatest), 1)
	for _, a := range []api.Rat{
		// They are not normal.
		{}, ratOf(false, nil, nil), ratOf(true, nil, nil), ratOf(true, nil, one), ratOf(false, one, nil), ratOf(false, one, []uint32{0}), ratOf(false, nil, []uint32{0}), ratOf(false, nil, []uint32{2}),
		ratOf(false, []uint32{0}, one), ratOf(false, []uint32{1, 0}, one), ratOf(false, one, []uint32{1, 0}), ratOf(false, one, []uint32{2, 0}), small(2, 2), small(2, 4), small(6, 3), small(10, 20),
		ratOf(false, append(slices.Clone(greatest), 0), one), ratOf(false, greatest, greatest), ratOf(false, long, long), ratOf(false, make([]uint32, 17), one), ratOf(false, long, []uint32{5}),
		// They are below 0.
		small(-1, 1), small(-1, 2), small(-7, 10), ratOf(true, greatest, one), ratOf(true, []uint32{0, 1}, one),
		// They are Large.
		ratOf(false, long, one), ratOf(false, append(make([]uint32, 16), 1), one), ratOf(false, append(make([]uint32, 16), 1), []uint32{5}), ratOf(false, one, append(make([]uint32, 16), 1)), normal(powers(10, 155)),
		// No 60 digits tell them.
		small(1, 3), small(2, 3), small(1, 7), small(1, 30), small(5, 6), small(1, most), normal(powers(2, -61)), normal(powers(5, -61)), normal(powers(10, -61)), ratOf(false, greatest, []uint32{7}), ratOf(false, []uint32{2}, greatest),
	} {
		expectIs(t, numOf(a), false)
		expectIs(t, api.Expr{Kind: api.ExprNeg, Kids: []api.Expr{numOf(a)}}, false)
		expectIs(t, api.Expr{Kind: api.ExprMul, Kids: []api.Expr{exprOf(named("a")), numOf(a)}}, false)
		if s := expr.Print(numOf(a)); s != "" {
			t.Error("Print of a number that may not be", a, s)
		}
	}
}

// powers is a whole number to a power, also to one below 0.
func powers(base, power int64) *big.Rat {
	x := new(big.Int).Exp(big.NewInt(base), big.NewInt(max(power, -power)), nil)
	if power < 0 {
		return new(big.Rat).SetFrac(big.NewInt(1), x)
	}
	return new(big.Rat).SetInt(x)
}

// P5.3: names in trees are such.
func TestIsOfNames(t *testing.T) {
	for s, want := range map[string]bool{
		"a": true, "z_9": true, "a" + times("x", 23): true,
		"": false, "A": false, "_": false, "1": false, "a b": false, "a-b": false, " a": false, "a" + times("x", 24): false, "\xff": false,
	} {
		e := api.Expr{Kind: api.ExprName, Name: s}
		expectIs(t, e, want)
		expectIs(t, api.Expr{Kind: api.ExprNeg, Kids: []api.Expr{e}}, want)
		expectIs(t, api.Expr{Kind: api.ExprSub, Kids: []api.Expr{e, e}}, want)
	}
}

// spoilt are copies of a tree that may be, each with one thing in its root
// that may not.
func spoilt(e api.Expr) []api.Expr {
	var list []api.Expr
	with := func(change func(e *api.Expr)) {
		x := e
		change(&x)
		list = append(list, x)
	}
	for _, kind := range []int{0, -1, 8, 9, 1 << 40, -1 << 40} {
		with(func(x *api.Expr) { x.Kind = kind })
	}
	kid := exprOf(named("k"))
	with(func(x *api.Expr) { x.Kids = append(slices.Clone(x.Kids), kid, kid, kid) })
	if len(e.Kids) > 0 {
		with(func(x *api.Expr) { x.Kids = nil })
		with(func(x *api.Expr) { x.Kids = []api.Expr{} })
		with(func(x *api.Expr) { x.Kids = append(slices.Clone(x.Kids[1:]), api.Expr{}) })
	} else {
		with(func(x *api.Expr) { x.Kids = []api.Expr{kid} })
		with(func(x *api.Expr) { x.Kids = []api.Expr{{}} })
	}
	if len(e.Kids) == 2 {
		with(func(x *api.Expr) { x.Kids = x.Kids[:1] })
	}
	if len(e.Kids) == 1 {
		with(func(x *api.Expr) { x.Kids = []api.Expr{x.Kids[0], x.Kids[0]} })
	}
	if e.Kind != api.ExprName {
		with(func(x *api.Expr) { x.Name = "a" })
		with(func(x *api.Expr) { x.Name = " " })
	}
	if e.Kind != api.ExprNum {
		for _, a := range []api.Rat{small(1, 1), small(-1, 1), small(1, 2), ratOf(false, []uint32{1}, nil), ratOf(false, nil, []uint32{2}), ratOf(false, nil, []uint32{0}), ratOf(false, []uint32{0}, nil), ratOf(false, []uint32{0}, []uint32{1}), ratOf(false, nil, []uint32{1, 0}), ratOf(true, nil, []uint32{1})} {
			with(func(x *api.Expr) { x.Num = a })
		}
	}
	return list
}

// everywhere are trees in which one node has been changed by one way.
func everywhere(e api.Expr, change func(e api.Expr) []api.Expr) []api.Expr {
	list := change(e)
	for i := range e.Kids {
		for _, kid := range everywhere(e.Kids[i], change) {
			x := e
			x.Kids = slices.Clone(e.Kids)
			x.Kids[i] = kid
			list = append(list, x)
		}
	}
	return list
}

// P5.3, P5.2: what may not be in some node, and the tree is not printed.
func TestIsOfTreesThatMayNotBe(t *testing.T) {
	deepest := exprOf(chains(31, named("a"))[5])
	for _, x := range append(everywhere(deepest, spoilt), api.Expr{}) {
		expectIs(t, x, false)
	}
	r := rand.New(rand.NewSource(2))
	for range 60 {
		for _, x := range everywhere(exprOf(grown(r, 1+r.Intn(12))), spoilt) {
			expectIs(t, x, false)
			if s := expr.Print(x); s != "" {
				t.Fatal("Print of what may not be", x, s)
			}
		}
	}
}

// others are copies of a tree whose root is written otherwise, but may be.
func others(e api.Expr) []api.Expr {
	var list []api.Expr
	if e.Kind != api.ExprNum {
		for _, a := range []api.Rat{ratOf(false, nil, []uint32{1}), ratOf(false, []uint32{}, []uint32{}), ratOf(false, []uint32{}, []uint32{1})} {
			x := e
			x.Num = a
			list = append(list, x)
		}
	}
	if len(e.Kids) == 0 {
		x := e
		x.Kids = []api.Expr{}
		list = append(list, x)
	}
	return list
}

// P5.3: a Num that a kind does not name is 0 without limbs or normal; an empty
// list is as good as nil.
func TestIsOfOtherWritings(t *testing.T) {
	r := rand.New(rand.NewSource(3))
	for range 60 {
		e := exprOf(grown(r, 1+r.Intn(12)))
		for _, x := range everywhere(e, others) {
			expectIs(t, x, true)
			expectSame(t, e, x, true)
			if got, want := expr.Print(x), expr.Print(e); got != want {
				t.Fatal("Print", x, got, want)
			}
		}
	}
}

func expectSame(t *testing.T, a, b api.Expr, want bool) {
	t.Helper()
	if expr.Same(a, b) != want || expr.Same(b, a) != want {
		t.Fatal("Same is not", want, "of", a, b)
	}
}

// P5.3
func TestSameOfAllPairs(t *testing.T) {
	all := few()
	all = append(all[:200:200], lone()...)
	for _, x := range all {
		for _, y := range all {
			expectSame(t, exprOf(x), exprOf(y), alike(exprOf(x), exprOf(y)))
		}
	}
}

// rewritten are copies of a node whose number is written otherwise.
func rewritten(e api.Expr) []api.Expr {
	if e.Kind != api.ExprNum {
		return nil
	}
	by := func(factor uint32, noughts int) []api.Expr {
		times := func(a []uint32) []uint32 {
			var row []uint32
			carry := uint64(0)
			for _, limb := range a {
				carry += uint64(limb) * uint64(factor)
				row = append(row, uint32(carry))
				carry >>= 32
			}
			return append(append(row, uint32(carry)), make([]uint32, noughts)...)
		}
		x := e
		x.Num = ratOf(e.Num.Neg, times(e.Num.N), times(e.Num.D))
		return []api.Expr{x}
	}
	return slices.Concat(by(1, 0), by(6, 1), by(most, 3))
}

// P5.3: numbers are held by their worth, however they are written.
func TestSameOfNumbersThatAreNotNormal(t *testing.T) {
	r := rand.New(rand.NewSource(4))
	for range 60 {
		e := exprOf(grown(r, 1+r.Intn(12)))
		for _, x := range everywhere(e, rewritten) {
			expectSame(t, e, x, true)
			expectIs(t, x, false)
		}
	}
	noughts := []api.Rat{{}, ratOf(true, nil, nil), ratOf(false, []uint32{0}, []uint32{0}), ratOf(true, nil, []uint32{7}), ratOf(false, []uint32{5}, nil), ratOf(true, []uint32{5}, []uint32{0, 0})}
	for _, a := range noughts {
		for _, b := range noughts {
			expectSame(t, numOf(a), numOf(b), true)
			expectSame(t, api.Expr{Kind: api.ExprName, Name: "a", Num: a}, api.Expr{Kind: api.ExprName, Name: "a", Num: b}, true)
		}
		expectSame(t, numOf(a), numOf(small(1, 1)), false)
	}
	expectSame(t, numOf(small(1, 2)), numOf(small(-1, 2)), false)
}

// P5.3: each thing counts in each node, also in trees that may not be.
func TestSameOfTreesThatDiffer(t *testing.T) {
	differ := func(e api.Expr) []api.Expr {
		var list []api.Expr
		for _, change := range []func(x *api.Expr){
			func(x *api.Expr) { x.Kind++ },
			func(x *api.Expr) { x.Kind = -x.Kind },
			func(x *api.Expr) { x.Name += "x" },
			func(x *api.Expr) { x.Num = small(77, 3) },
			func(x *api.Expr) { x.Num = small(-77, 3) },
			func(x *api.Expr) { x.Kids = append(slices.Clone(x.Kids), exprOf(named("x"))) },
			func(x *api.Expr) { x.Kids = append(slices.Clone(x.Kids), api.Expr{}) },
			func(x *api.Expr) { x.Kids = append([]api.Expr{exprOf(named("x"))}, x.Kids...) },
		} {
			x := e
			change(&x)
			list = append(list, x)
		}
		return list
	}
	r := rand.New(rand.NewSource(5))
	for range 60 {
		e := exprOf(grown(r, 1+r.Intn(12)))
		for _, x := range everywhere(e, differ) {
			expectSame(t, e, x, false)
			expectSame(t, x, x, true)
		}
	}
	expectSame(t, api.Expr{}, api.Expr{}, true)
	expectSame(t, api.Expr{}, api.Expr{Kids: []api.Expr{}}, true)
	expectSame(t, api.Expr{}, api.Expr{Kids: []api.Expr{{}}}, false)
	expectSame(t, api.Expr{Kind: 99, Name: "\xff"}, api.Expr{Kind: 99, Name: "\xff"}, true)
	expectSame(t, api.Expr{Kind: 99, Name: "\xff"}, api.Expr{Kind: 99, Name: "\xfe"}, false)
}

func expectCounts(t *testing.T, e api.Expr, depth, nodes int, names []string) {
	t.Helper()
	if got := expr.Depth(e); got != depth {
		t.Fatal("Depth is", got, "not", depth, "of", e)
	}
	if got := expr.Nodes(e); got != nodes {
		t.Fatal("Nodes is", got, "not", nodes, "of", e)
	}
	if got := expr.Names(e); !slices.Equal(got, names) {
		t.Fatal("Names is", got, "not", names, "of", e)
	}
}

// P5.3
func TestDepthNodesAndNamesByHand(t *testing.T) {
	for _, x := range []struct {
		s            string
		depth, nodes int
		names        []string
	}{
		{"1", 1, 1, nil}, {"a", 1, 1, []string{"a"}}, {"-a", 2, 2, []string{"a"}}, {"--1", 3, 3, nil}, {"a+b", 2, 3, []string{"a", "b"}}, {"b-a", 2, 3, []string{"b", "a"}}, {"a*a", 2, 3, []string{"a"}}, {"1/2", 2, 3, nil},
		{"b*a-a/b", 3, 7, []string{"b", "a"}}, {"c-(b-a)", 3, 5, []string{"c", "b", "a"}}, {"(c-b)-a", 3, 5, []string{"c", "b", "a"}}, {"a-(b-c)*2", 4, 7, []string{"a", "b", "c"}}, {"a*-(b+--a)", 6, 8, []string{"a", "b"}},
		{"z+y+x+z+y+w", 6, 11, []string{"z", "y", "x", "w"}}, {"z-(y-(x-(z-(y-w))))", 6, 11, []string{"z", "y", "x", "w"}}, {"((((a))))", 1, 1, []string{"a"}}, {"ab+a+b+ab", 4, 7, []string{"ab", "a", "b"}},
	} {
		e, _, err := expr.Parse(x.s)
		if err != api.OK {
			t.Fatal("Parse refuses", x.s, err)
		}
		expectCounts(t, e, x.depth, x.nodes, x.names)
	}
}

// P5.3
func TestDepthNodesAndNamesOnManyTrees(t *testing.T) {
	r := rand.New(rand.NewSource(6))
	for range 2000 {
		x := grown(r, 1+r.Intn(1+r.Intn(400)))
		expectCounts(t, exprOf(x), x.depth(), x.nodes(), once(x.names()))
	}
	for n := range 300 {
		for _, x := range chains(n, named("a")) {
			expectCounts(t, exprOf(x), n+1, x.nodes(), once(x.names()))
		}
	}
}

// P5.3: of trees that may not be, too.
func TestDepthNodesAndNamesOfTreesThatMayNotBe(t *testing.T) {
	expectCounts(t, api.Expr{}, 1, 1, nil)
	expectCounts(t, api.Expr{Kids: []api.Expr{}}, 1, 1, nil)
	expectCounts(t, api.Expr{Kind: 99, Kids: []api.Expr{{}, {Kids: []api.Expr{{}, {}}}, {}}}, 3, 6, nil)
	a, b := exprOf(named("a")), exprOf(named("b"))
	expectCounts(t, api.Expr{Kind: -1, Kids: []api.Expr{b, a, b, a, {Kind: api.ExprNeg}}}, 2, 6, []string{"b", "a"})
	expectCounts(t, api.Expr{Kind: api.ExprNum, Kids: []api.Expr{{Kind: api.ExprName, Name: "b", Kids: []api.Expr{a, b}}}}, 3, 4, []string{"b", "a"})
	// What stands as Name in a node of another kind is none.
	expectCounts(t, api.Expr{Kind: api.ExprNeg, Name: "n", Kids: []api.Expr{a}}, 2, 2, []string{"a"})
	expectCounts(t, api.Expr{Kind: api.ExprNum, Name: "a"}, 1, 1, nil)
}

// W1: trees of many parts within one another, and of many beside one another.
func TestGreatTrees(t *testing.T) {
	const n = 1 << 16
	deep := exprOf(named("a"))
	for range n - 1 {
		deep = api.Expr{Kind: api.ExprNeg, Kids: []api.Expr{deep}}
	}
	wide := api.Expr{Kind: api.ExprAdd, Kids: make([]api.Expr, n)}
	for i := range wide.Kids {
		wide.Kids[i] = exprOf(named("a" + big.NewInt(int64(i)).String()))
	}
	expectCounts(t, deep, n, n, []string{"a"})
	if expr.Depth(wide) != 2 || expr.Nodes(wide) != n+1 || len(expr.Names(wide)) != n || expr.Names(wide)[n-1] != wide.Kids[n-1].Name {
		t.Error("a wide tree has other counts")
	}
	for _, e := range []api.Expr{deep, wide} {
		expectIs(t, e, false)
		expectSame(t, e, e, true)
		if expr.Print(e) != "" {
			t.Error("a great tree is printed")
		}
	}
	expectSame(t, deep, deep.Kids[0], false)
	expectSame(t, wide, api.Expr{Kind: api.ExprAdd, Kids: wide.Kids[1:]}, false)
	// This one has more nodes than could be gone through.
	twice := exprOf(named("a"))
	for range 1000 {
		twice = api.Expr{Kind: api.ExprAdd, Kids: []api.Expr{twice, twice}}
	}
	expectIs(t, twice, false)
	if expr.Print(twice) != "" {
		t.Error("a tree without end is printed")
	}
	long := numOf(ratOf(false, slices.Repeat([]uint32{most}, n), slices.Repeat([]uint32{7}, n)))
	expectIs(t, long, false)
	expectSame(t, long, exprOf(named("a")), false)
}

package aff_test

import (
	"math/rand"
	"slices"
	"testing"

	"pantograph/aff"
	"pantograph/api"
	"pantograph/expr"
)

// expectRead holds Of and Value of an expression that may be against the
// model, and against one another (P8.4).
func expectRead(t *testing.T, e api.Expr, v aff.Env, at []api.Rat) {
	t.Helper()
	sum, err := aff.Of(e, v)
	want, wantErr := saidSum(e, v)
	if err != wantErr || !alikeSums(sum, want) {
		t.Fatal("Of", expr.Print(e), v, "is", sum, err, "not", want, wantErr)
	}
	number, numberErr := aff.Value(e, v, at)
	wantNumber, wantNumberErr := saidNumber(e, v, at)
	if numberErr != wantNumberErr || !alike(number, wantNumber) {
		t.Fatal("Value", expr.Print(e), v, at, "is", number, numberErr, "not", wantNumber, wantNumberErr)
	}
	if err != api.OK {
		return
	}
	if !aff.Is(sum, len(v.Vars)) || sum.Strength != 0 {
		t.Fatal("Of", expr.Print(e), "answers what may not be:", sum)
	}
	if numberErr != api.OK || !alike(aff.At(sum, at), number) {
		t.Fatal("At of Of is not Value:", expr.Print(e), v, at)
	}
}

// P8.2, P8.3: of each kind of expression, with the usual names; the values of
// x, y and z are 3, 0 and 5.
func TestReadByHand(t *testing.T) {
	at := []api.Rat{whole(3), whole(0), whole(5)}
	for _, x := range []struct{ text, sum, number string }{
		// The chapter's example.
		{"2 * (x + 1) - x", "1x 2", "5"},
		{"0", "0", "0"}, {"7", "7", "7"}, {"2.5", "5/2", "5/2"}, {"x", "1x 0", "3"}, {"y", "1y 0", "0"}, {"z", "1z 0", "5"}, {"k", "2", "2"}, {"j", "-3", "-3"}, {"h", "1/3", "1/3"}, {"o", "0", "0"},
		{"x+y", "1x 1y 0", "3"}, {"y+x", "1x 1y 0", "3"}, {"z+x", "1x 1z 0", "8"}, {"x+x", "2x 0", "6"}, {"x+1", "1x 1", "4"}, {"1+x", "1x 1", "4"}, {"k+h", "7/3", "7/3"}, {"z+y+x+z", "1x 1y 2z 0", "13"},
		{"x-y", "1x -1y 0", "3"}, {"y-x", "-1x 1y 0", "-3"}, {"x-x", "0", "0"}, {"x-1", "1x -1", "2"}, {"1-x", "-1x 1", "-2"}, {"h-k", "-5/3", "-5/3"}, {"x-(y-z)", "1x -1y 1z 0", "8"}, {"x-y-z", "1x -1y -1z 0", "-2"}, {"(x+y)-(y+x)", "0", "0"},
		// Signs of sums and of nothing.
		{"-x", "-1x 0", "-3"}, {"--x", "1x 0", "3"}, {"-k", "-2", "-2"}, {"-j", "3", "3"}, {"-0", "0", "0"}, {"-o", "0", "0"}, {"--0", "0", "0"}, {"-(x-x)", "0", "0"}, {"-(x-y+1)", "-1x 1y -1", "-4"}, {"-(-x+2)", "1x -2", "1"}, {"-x*k", "-2x 0", "-6"}, {"0-x", "-1x 0", "-3"}, {"-x+x", "0", "0"},
		// Terms in neither factor, the left, the right, both.
		{"2*3", "6", "6"}, {"k*j", "-6", "-6"}, {"0*k", "0", "0"}, {"x*k", "2x 0", "6"}, {"k*x", "2x 0", "6"}, {"(x+1)*j", "-3x -3", "-12"}, {"j*(x+1)", "-3x -3", "-12"}, {"x*0", "0", "0"}, {"o*x", "0", "0"}, {"(x+1)*o", "0", "0"}, {"h*(z-3*y)", "-1y 1/3z 0", "5/3"},
		{"x*y", "linear", "0"}, {"x*x", "linear", "9"}, {"(x+1)*(y+1)", "linear", "4"}, {"x*z*k", "linear", "30"}, {"-x*z", "linear", "-15"}, {"k*x*(1+z)", "linear", "36"}, {"x*z-x*z", "linear", "0"}, {"x*y*0", "linear", "0"},
		// A factor whose terms have cancelled.
		{"0*x*y", "0", "0"}, {"x*(y-y)", "0", "0"}, {"(x-x)*y", "0", "0"}, {"(x-x)*(y-y)", "0", "0"}, {"x*(y-y+2)", "2x 0", "6"}, {"(x-x-k)*z", "-2z 0", "-10"}, {"(x+y-x)*z", "linear", "0"}, {"x*(0*z)", "0", "0"}, {"(x+0*y)*(0*x+y)", "linear", "0"}, {"x*(z-z*1)", "0", "0"},
		// Quotients.
		{"1/2", "1/2", "1/2"}, {"k/j", "-2/3", "-2/3"}, {"0/j", "0", "0"}, {"x/2", "1/2x 0", "3/2"}, {"x/j", "-1/3x 0", "-1"}, {"(x+6*y+k)/j", "-1/3x -2y -2/3", "-5/3"}, {"x/h", "3x 0", "9"}, {"x/-2", "-1/2x 0", "-3/2"}, {"x/k/j", "-1/6x 0", "-1/2"}, {"x/(k/j)", "-3/2x 0", "-9/2"},
		{"1/x", "linear", "1/3"}, {"x/x", "linear", "1"}, {"0/x", "linear", "0"}, {"k/(z-x)", "linear", "1"}, {"x/(1+y)", "linear", "3"}, {"1/y", "linear", "zero"}, {"1/(x-3)", "linear", "zero"}, {"0/y", "linear", "zero"}, {"y/y", "linear", "zero"},
		{"1/0", "zero", "zero"}, {"x/0", "zero", "zero"}, {"0/0", "zero", "zero"}, {"x/o", "zero", "zero"}, {"o/o", "zero", "zero"}, {"1/(k-2)", "zero", "zero"}, {"x/(x-x)", "zero", "zero"}, {"1/(3*h-1)", "zero", "zero"}, {"x/(0*y)", "zero", "zero"}, {"1/-0", "zero", "zero"}, {"(x-x)/(y-y)", "zero", "zero"},
		{"1/(x-x+2)", "1/2", "1/2"}, {"x/(y-y+j)", "-1/3x 0", "-1"}, {"(x-x)/k", "0", "0"}, {"x*(1/k)", "1/2x 0", "3/2"}, {"1/k*x", "1/2x 0", "3/2"}, {"(x*k)/(x-x+k)", "1x 0", "3"},
		// Names that are none.
		{"n", "name", "name"}, {"xx", "name", "name"}, {"x_", "name", "name"}, {"-n", "name", "name"}, {"x+n", "name", "name"}, {"n-x", "name", "name"}, {"0*n", "name", "name"}, {"n*0", "name", "name"}, {"n-n", "name", "name"}, {"1/n", "name", "name"}, {"n/1", "name", "name"}, {"k*(j*(x-(1/(2+n))))", "name", "name"},
	} {
		sum, err := aff.Of(tree(x.text), usual())
		if got := inWords(sum); err != api.OK && !alikeSums(sum, api.Con{}) || outcome(got, err) != x.sum {
			t.Error("Of", x.text, "is", sum, err, "not", x.sum)
		}
		number, err := aff.Value(tree(x.text), usual(), at)
		if got := value(number).RatString(); err != api.OK && !alike(number, api.Rat{}) || outcome(got, err) != x.number {
			t.Error("Value", x.text, "is", number, err, "not", x.number)
		}
		expectRead(t, tree(x.text), usual(), at)
	}
}

// outcome is an answer in words, or its error.
func outcome(answer string, err api.Errno) string {
	switch err {
	case api.OK:
		return answer
	case api.ErrName:
		return "name"
	case api.ErrLinear:
		return "linear"
	case api.ErrZero:
		return "zero"
	}
	return err.Error()
}

// P8.2, P8.3: of two errors the left Kid's comes first, then the right one's,
// then the expression's own.
func TestOrderOfErrors(t *testing.T) {
	for _, x := range []struct{ text, sum, number string }{
		{"n+x*y", "name", "name"}, {"x*y+n", "linear", "name"}, {"n+1/0", "name", "name"}, {"1/0+n", "zero", "zero"}, {"x*y+1/0", "linear", "zero"}, {"1/0+x*y", "zero", "zero"}, {"1/x+1/0", "linear", "zero"}, {"1/0-1/x", "zero", "zero"},
		{"n-m", "name", "name"}, {"x*n", "name", "name"}, {"n*x*y", "name", "name"}, {"x*y*n", "linear", "name"}, {"x*(y*n)", "name", "name"}, {"x*(y/0)", "zero", "zero"}, {"(x/0)*y", "zero", "zero"}, {"x*y/0", "linear", "zero"}, {"x/0*y", "zero", "zero"}, {"x*(1/y)", "linear", "zero"},
		{"n/0", "name", "name"}, {"0/n", "name", "name"}, {"n/x", "name", "name"}, {"x/(1/0)", "zero", "zero"}, {"x/(n/0)", "name", "name"}, {"x/(0/n)", "name", "name"}, {"(1/0)/x", "zero", "zero"}, {"(1/x)/0", "linear", "zero"}, {"1/x/0", "linear", "zero"}, {"1/0/x", "zero", "zero"}, {"x*y/(1/0)", "linear", "zero"}, {"1/0/(x*y)", "zero", "zero"}, {"x*y/n", "linear", "name"}, {"n/(x*y)", "name", "name"},
		{"-(x*y)+n", "linear", "name"}, {"-(n+x*y)", "name", "name"}, {"-(1/0)-n", "zero", "zero"}, {"-n-1/0", "name", "name"}, {"1+(2+x*y)+n", "linear", "name"}, {"(1+(n+x*y))*1/0", "name", "name"}, {"1/(x-3)+n", "linear", "zero"}, {"n+1/(x-3)", "name", "name"}, {"1/(k-2)*n", "zero", "zero"}, {"n*1/(k-2)", "name", "name"},
		{"x*(y+1/0)*n", "zero", "zero"}, {"(x+n)*(y+1/0)", "name", "name"}, {"(x+1/0)*(y+n)", "zero", "zero"}, {"x*z+(y*x)/n", "linear", "name"}, {"(x*z-15)/(x*y)", "linear", "zero"}, {"1/(x*z-15)+n", "linear", "zero"}, {"n+1/(x*z-15)", "name", "name"},
	} {
		at := []api.Rat{whole(3), whole(0), whole(5)}
		_, err := aff.Of(tree(x.text), usual())
		_, numberErr := aff.Value(tree(x.text), usual(), at)
		if outcome("", err) != x.sum || outcome("", numberErr) != x.number {
			t.Error(x.text, "errs with", err, numberErr, "not", x.sum, x.number)
		}
		expectRead(t, tree(x.text), usual(), at)
	}
}

// P8.2, P8.3: any two errors, on the left and on the right of any kind.
func TestAnyTwoErrors(t *testing.T) {
	faults := leavesOf("n", "x*y", "1/x", "1/0", "x/o", "-n", "y*(x+1)", "1/(x-3)", "k/y", "x", "k", "y-y", "0")
	at := []api.Rat{whole(3)}
	for _, l := range faults {
		for _, r := range faults {
			for kind := api.ExprAdd; kind <= api.ExprDiv; kind++ {
				e := node(kind, l, r)
				expectRead(t, e, usual(), at)
				for _, third := range faults {
					for outer := api.ExprAdd; outer <= api.ExprDiv; outer++ {
						expectRead(t, node(outer, e, third), usual(), at)
						expectRead(t, node(outer, third, node(api.ExprNeg, e)), usual(), at)
					}
				}
			}
		}
	}
}

// P8.2, P8.3: what names mean.
func TestNames(t *testing.T) {
	seven, eight, nine := whole(7), whole(8), whole(9)
	for _, x := range []struct {
		v           aff.Env
		at          []api.Rat
		sum, number string
	}{
		{aff.Env{}, nil, "name", "name"}, {aff.Env{}, []api.Rat{seven}, "name", "name"}, {aff.Env{Vals: []api.Rat{seven}}, []api.Rat{eight}, "name", "name"},
		{aff.Env{Vars: []string{}, Names: []string{}, Vals: []api.Rat{}}, nil, "name", "name"}, {aff.Env{Vars: []string{"b"}, Names: []string{"c"}, Vals: []api.Rat{seven}}, []api.Rat{eight}, "name", "name"},
		{aff.Env{Vars: []string{"", "A", "aa", "a ", " a"}, Names: []string{"", "A", "a1"}, Vals: []api.Rat{seven, seven, seven}}, []api.Rat{eight, eight, eight, eight, eight}, "name", "name"},
		{aff.Env{Vars: []string{"a"}}, nil, "1x 0", "0"}, {aff.Env{Vars: []string{"a"}}, []api.Rat{seven}, "1x 0", "7"}, {aff.Env{Vars: []string{"b", "a"}}, []api.Rat{seven}, "1y 0", "0"}, {aff.Env{Vars: []string{"b", "a"}}, []api.Rat{seven, eight, nine}, "1y 0", "8"},
		{aff.Env{Names: []string{"a"}, Vals: []api.Rat{seven}}, []api.Rat{eight}, "7", "7"}, {aff.Env{Names: []string{"b", "a"}, Vals: []api.Rat{seven, eight}}, []api.Rat{nine}, "8", "8"},
		{aff.Env{Names: []string{"b", "a"}, Vals: []api.Rat{seven, eight, nine}}, nil, "8", "8"}, {aff.Env{Names: []string{"b", "a", "c"}, Vals: []api.Rat{seven, eight}}, nil, "8", "8"},
		// Vals that are shorter.
		{aff.Env{Names: []string{"a"}}, []api.Rat{eight}, "0", "0"}, {aff.Env{Names: []string{"a"}, Vals: []api.Rat{}}, nil, "0", "0"}, {aff.Env{Names: []string{"b", "a"}, Vals: []api.Rat{seven}}, []api.Rat{eight, nine}, "0", "0"},
		{aff.Env{Names: []string{"b", "a"}, Vals: []api.Rat{seven, nine}[:1]}, nil, "0", "0"}, {aff.Env{Vars: []string{"b", "a"}}, []api.Rat{seven, nine}[:1], "1y 0", "0"},
		// Both, and twice.
		{aff.Env{Vars: []string{"a"}, Names: []string{"a"}, Vals: []api.Rat{seven}}, []api.Rat{eight}, "1x 0", "8"}, {aff.Env{Vars: []string{"a"}, Names: []string{"a"}, Vals: []api.Rat{seven}}, nil, "1x 0", "0"},
		{aff.Env{Vars: []string{"b", "b", "a"}, Names: []string{"a", "c"}, Vals: []api.Rat{seven, seven}}, []api.Rat{eight, eight, nine}, "1z 0", "9"}, {aff.Env{Vars: []string{"a", "b", "a"}}, []api.Rat{seven, eight, nine}, "1x 0", "7"},
		{aff.Env{Vars: []string{"b", "a", "a"}}, []api.Rat{seven, eight, nine}, "1y 0", "8"}, {aff.Env{Vars: []string{"b", "a", "a"}}, []api.Rat{seven}, "1y 0", "0"},
		{aff.Env{Names: []string{"a", "b", "a"}, Vals: []api.Rat{seven, eight, nine}}, nil, "7", "7"}, {aff.Env{Names: []string{"b", "a", "a"}, Vals: []api.Rat{seven, eight, nine}}, nil, "8", "8"}, {aff.Env{Names: []string{"b", "a", "a"}, Vals: []api.Rat{seven}}, nil, "0", "0"},
		{aff.Env{Vars: []string{"a", "a"}, Names: []string{"a", "a"}, Vals: []api.Rat{seven, seven}}, []api.Rat{eight, nine}, "1x 0", "8"},
		// Numbers that are not normal.
		{aff.Env{Names: []string{"a"}, Vals: []api.Rat{small(-14, 2)}}, nil, "-7", "-7"}, {aff.Env{Names: []string{"a"}, Vals: []api.Rat{small(7, 0)}}, nil, "0", "0"}, {aff.Env{Names: []string{"a"}, Vals: []api.Rat{{}}}, nil, "0", "0"},
		{aff.Env{Vars: []string{"a"}}, []api.Rat{small(14, 2)}, "1x 0", "7"}, {aff.Env{Vars: []string{"a"}}, []api.Rat{{Neg: true}}, "1x 0", "0"}, {aff.Env{Vars: []string{"a"}}, []api.Rat{small(-7, 0)}, "1x 0", "0"},
	} {
		sum, err := aff.Of(named("a"), x.v)
		if outcome(inWords(sum), err) != x.sum {
			t.Error("Of", x.v, "is", sum, err, "not", x.sum)
		}
		number, err := aff.Value(named("a"), x.v, x.at)
		if outcome(value(number).RatString(), err) != x.number {
			t.Error("Value", x.v, x.at, "is", number, err, "not", x.number)
		}
		for _, text := range []string{"a", "-a", "a+1", "2*a", "a/3", "1/a", "a*a", "b-a", "a/b", "a+a+b+c"} {
			expectRead(t, tree(text), x.v, x.at)
		}
	}
}

// P8.2, P8.3: numbers in Vals and of variables are taken as Norm makes them;
// those that are 0 divide nothing.
func TestRoughNumbers(t *testing.T) {
	for _, a := range rough() {
		for _, b := range rough() {
			v := aff.Env{Vars: []string{"x", "y"}, Names: []string{"k", "j"}, Vals: []api.Rat{a, b}}
			for _, text := range []string{"k", "k+j", "k-j", "k*j", "k/j", "-k", "k*x+j", "x*j-y/k", "x*y", "x/y", "k/(j-j+x)", "(x-k)/j"} {
				expectRead(t, tree(text), v, []api.Rat{b, a})
			}
		}
	}
}

// P8.3
func TestValueOfFewOrManyValues(t *testing.T) {
	long := []api.Rat{whole(3), small(1, 2), whole(-5), whole(11), whole(13)}
	for _, text := range []string{"x", "y", "z", "x+10*y+100*z", "x*y+z", "x/(y+1)", "1/y", "1/z", "z/x", "k*z-x"} {
		for n := range len(long) + 1 {
			expectRead(t, tree(text), usual(), long[:n])
			expectRead(t, tree(text), usual(), slices.Clip(long[:n]))
		}
		expectRead(t, tree(text), usual(), nil)
		short, _ := aff.Value(tree(text), usual(), long[:3])
		if got, err := aff.Value(tree(text), usual(), long); err != api.OK || !alike(got, short) {
			t.Error("values of no variable count:", text)
		}
	}
}

// P8.2, P8.3: of what may not be, ahead of any other error.
func TestReadWhatMayNotBe(t *testing.T) {
	x := named("x")
	for _, bad := range badExprs() {
		for _, e := range []api.Expr{bad, node(api.ExprNeg, bad), node(api.ExprAdd, tree("1/0"), bad), node(api.ExprSub, bad, tree("x*y")), node(api.ExprMul, tree("x*y"), bad), node(api.ExprDiv, bad, tree("0")), node(api.ExprMul, x, bad), node(api.ExprDiv, tree("1/x"), bad)} {
			if expr.Is(e) {
				t.Fatal("the test's expression may be:", e)
			}
			for _, v := range []aff.Env{{}, usual(), {Vars: []string{"", "X", "x y", "\xff", times("x", api.MaxName+1), "x", "k"}}, {Names: []string{"", "X", "x y", "\xff", times("x", api.MaxName+1), "x", "k"}}} {
				if sum, err := aff.Of(e, v); err != api.ErrName || !alikeSums(sum, api.Con{}) {
					t.Fatal("Of", e, "is", sum, err)
				}
				if number, err := aff.Value(e, v, rough()); err != api.ErrName || !alike(number, api.Rat{}) {
					t.Fatal("Value", e, "is", number, err)
				}
			}
		}
	}
}

// P8.2 to P8.4: all small expressions.
func TestSmallTrees(t *testing.T) {
	for _, e := range few(3, leavesOf("x", "y", "2", "o")) {
		expectRead(t, e, usual(), []api.Rat{whole(2), small(-1, 3)})
	}
	for _, e := range few(2, leavesOf("x", "y", "z", "k", "j", "h", "o", "n", "0", "1", "0.25", "x-x", "x+k", "y-1", "2*z-x")) {
		expectRead(t, e, usual(), []api.Rat{whole(-1), small(4, 2), whole(0)})
		expectRead(t, e, usual(), nil)
	}
}

// P8.4: over many expressions and values.
func TestRandomTrees(t *testing.T) {
	r := rand.New(rand.NewSource(83))
	leaves := leavesOf("x", "y", "k", "2", "j", "h", "0.5", "z", "3", "o", "n")
	count := map[api.Errno]int{}
	for range 30000 {
		// Without n, and maybe without o, most of them have a sum.
		e := grown(r, 1+r.Intn(30), leaves[:len(leaves)-r.Intn(5)-r.Intn(2)], 4)
		v := usual()
		for i := range v.Vals {
			if r.Intn(3) == 0 {
				v.Vals[i] = small(r.Intn(9)-4, uint32(1+r.Intn(4)))
			}
		}
		v.Vals = v.Vals[:4-r.Intn(2)*r.Intn(3)]
		at := make([]api.Rat, r.Intn(5))
		for i := range at {
			at[i] = small(r.Intn(9)-4, uint32(r.Intn(5)))
		}
		expectRead(t, e, v, at)
		_, err := aff.Of(e, v)
		count[err]++
	}
	if count[api.OK] < 3000 || count[api.ErrName] < 500 || count[api.ErrLinear] < 3000 || count[api.ErrZero] < 500 {
		t.Error("the test's trees are of few kinds:", count)
	}
}

// P8.4: sums of products with numbers alone have a sum, however they stand.
func TestRandomLinearTrees(t *testing.T) {
	r := rand.New(rand.NewSource(84))
	numbers, fields := leavesOf("k", "j", "h", "2", "0.5", "3"), leavesOf("x", "y", "z", "x-y", "z-2")
	var linear func(nodes int) api.Expr
	linear = func(nodes int) api.Expr {
		if nodes < 3 {
			return fields[r.Intn(len(fields))]
		}
		left := 1 + r.Intn(nodes-2)
		number := numbers[r.Intn(len(numbers))]
		switch r.Intn(6) {
		case 0:
			return node(api.ExprMul, number, linear(nodes-2))
		case 1:
			return node(api.ExprMul, linear(nodes-2), number)
		case 2:
			return node(api.ExprDiv, linear(nodes-2), number)
		case 3:
			return node(api.ExprNeg, linear(nodes-1))
		case 4:
			return node(api.ExprAdd, linear(left), linear(nodes-1-left))
		}
		return node(api.ExprSub, linear(left), linear(nodes-1-left))
	}
	for range 4000 {
		e := linear(1 + r.Intn(30))
		if !expr.Is(e) {
			continue
		}
		at := []api.Rat{small(r.Intn(99)-49, 7), roughOne(r), small(r.Intn(99)-49, 12)}
		if _, err := aff.Of(e, usual()); err != api.OK {
			t.Fatal("a sum of multiples has none:", expr.Print(e))
		}
		expectRead(t, e, usual(), at)
	}
}

// P8.2, P8.3: trees as deep as may be.
func TestDeepTrees(t *testing.T) {
	at := []api.Rat{small(5, 3), whole(2)}
	for _, leaf := range leavesOf("x", "k", "0", "o", "n") {
		for _, other := range leavesOf("y", "x", "j", "1", "0", "n") {
			for kind := api.ExprAdd; kind <= api.ExprNeg; kind++ {
				for _, isLeft := range []bool{true, false} {
					e := leaf
					for range api.MaxDeep - 1 {
						switch {
						case kind == api.ExprNeg:
							e = node(kind, e)
						case isLeft:
							e = node(kind, e, other)
						default:
							e = node(kind, other, e)
						}
					}
					if expr.Depth(e) != api.MaxDeep || !expr.Is(e) {
						t.Fatal("the test's tree is not as deep as may be")
					}
					expectRead(t, e, usual(), at)
				}
			}
		}
	}
}

// P8.2, P8.3: trees with as many nodes as may be.
func TestTreesOfManyNodes(t *testing.T) {
	r := rand.New(rand.NewSource(85))
	sums, numbers := leavesOf("x", "y", "z", "k", "j", "0.5"), leavesOf("k", "j", "h", "3", "0.5")
	for range 60 {
		for _, e := range []api.Expr{grown(r, api.MaxNodes, sums, 2), grown(r, api.MaxNodes, numbers, 4)} {
			if expr.Nodes(e) != api.MaxNodes || !expr.Is(e) {
				t.Fatal("the test's tree has not as many nodes as may be")
			}
			expectRead(t, e, usual(), []api.Rat{whole(2), small(1, 7), whole(-3)})
		}
	}
	// As many variables as a tree has room for, from the last one on.
	var v aff.Env
	e := node(api.ExprNeg, flat(&v, api.MaxNodes/2))
	if expr.Nodes(e) != api.MaxNodes || len(v.Vars) != api.MaxNodes/2 {
		t.Fatal("the test's tree has not as many nodes as may be")
	}
	at := slices.Repeat([]api.Rat{small(2, 3), whole(-1)}, api.MaxNodes/4)
	expectRead(t, e, v, at)
	slices.Reverse(v.Vars)
	expectRead(t, e, v, at)
	if sum, err := aff.Of(e, v); err != api.OK || len(sum.Terms) != api.MaxNodes/2 {
		t.Error("the sum of many variables:", sum, err)
	}
}

// P8.2, P8.3: trees that are as deep as may be and have as many nodes.
func TestTreesDeepAndOfManyNodes(t *testing.T) {
	r := rand.New(rand.NewSource(86))
	sizes := slices.Concat(slices.Repeat([]int{1}, 7), slices.Repeat([]int{9}, 23), []int{10})
	for kind := api.ExprAdd; kind <= api.ExprDiv; kind++ {
		for _, isLeft := range []bool{true, false} {
			for _, leaves := range [][]api.Expr{leavesOf("k", "j", "h", "3"), leavesOf("x", "y", "3", "h"), leavesOf("k", "o", "n", "2")} {
				e := named("k")
				for _, size := range sizes {
					beside := grown(r, size, leaves, 2)
					if isLeft {
						e = node(kind, e, beside)
					} else {
						e = node(kind, beside, e)
					}
				}
				if expr.Depth(e) != api.MaxDeep || expr.Nodes(e) != api.MaxNodes || !expr.Is(e) {
					t.Fatal("the test's tree is not as great as may be")
				}
				expectRead(t, e, usual(), []api.Rat{whole(2), small(1, 7)})
			}
		}
	}
}

// flat is a sum of so many variables, which are new.
func flat(v *aff.Env, count int) api.Expr {
	if count > 1 {
		return node(api.ExprSub, flat(v, count/2), flat(v, count-count/2))
	}
	name := "v" + string(rune('a'+len(v.Vars)/26)) + string(rune('a'+len(v.Vars)%26))
	v.Vars = append(v.Vars, name)
	return named(name)
}

// P8.2, W1: numbers grow beyond what is Large, and are told exactly.
func TestNumbersThatGrow(t *testing.T) {
	great := tree(times("9", 150))
	e, f := node(api.ExprMul, great, named("x")), node(api.ExprDiv, named("x"), great)
	for range 20 {
		e, f = node(api.ExprMul, e, great), node(api.ExprDiv, f, great)
	}
	for _, x := range []api.Expr{e, f, node(api.ExprSub, e, f), node(api.ExprAdd, f, tree("1/3"))} {
		expectRead(t, x, usual(), []api.Rat{small(2, 7)})
	}
	huge := ratOf(true, slices.Repeat([]uint32{most}, 500), slices.Repeat([]uint32{1 << 31}, 300))
	v := usual()
	v.Vals[0] = huge
	for _, text := range []string{"k*x", "x/k", "k*k-x", "k*x+1/k"} {
		expectRead(t, tree(text), v, []api.Rat{huge})
	}
}

// W1, W2: names by the thousand.
func TestManyNames(t *testing.T) {
	v := aff.Env{Vars: slices.Repeat([]string{"b"}, 1<<16), Names: slices.Repeat([]string{"c"}, 1<<16)}
	v.Vars = append(v.Vars, "a", "b")
	v.Names = append(v.Names, "d")
	sum, err := aff.Of(tree("a+b+c+d"), v)
	if want := con(0, whole(0), row(0, 1, 1<<16, 1)...); err != api.OK || !alikeSums(sum, want) {
		t.Error("Of is", sum, err)
	}
	if _, err := aff.Of(tree("e"), v); err != api.ErrName {
		t.Error("Of a name that is none is", err)
	}
}

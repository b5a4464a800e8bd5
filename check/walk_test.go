package check_test

import (
	"math/rand"
	"slices"
	"testing"

	"pantograph/api"
	"pantograph/check"
	"pantograph/expr"
)

// P7.1: of expressions of the fields x and y.
func TestHasAndLinear(t *testing.T) {
	fields := []string{"x", "y"}
	for _, c := range []struct {
		text        string
		has, linear bool
	}{
		{"0", false, true}, {"1", false, true}, {"2.5", false, true},
		{"x", true, true}, {"y", true, true}, {"k", false, true}, {"xx", false, true}, {"x_", false, true}, {"x1", false, true},
		{"-x", true, true}, {"-k", false, true}, {"-1", false, true}, {"--x", true, true}, {"-(x*y)", true, false}, {"-(k/x)", true, false},
		{"k+1", false, true}, {"x+1", true, true}, {"1+x", true, true}, {"x+y", true, true}, {"x+x", true, true}, {"k+j", false, true},
		{"k-1", false, true}, {"x-1", true, true}, {"1-x", true, true}, {"x-y", true, true}, {"x-x", true, true},
		{"2*3", false, true}, {"k*j", false, true}, {"x*2", true, true}, {"2*x", true, true}, {"x*k", true, true}, {"k*y", true, true},
		{"x*y", true, false}, {"y*x", true, false}, {"x*x", true, false}, {"x*-x", true, false}, {"-x*y", true, false},
		{"1/2", false, true}, {"k/j", false, true}, {"x/2", true, true}, {"x/k", true, true}, {"x/0", true, true}, {"0/0", false, true},
		{"1/x", true, false}, {"k/y", true, false}, {"0/x", true, false}, {"x/y", true, false}, {"x/x", true, false}, {"1/-x", true, false}, {"1/(k+x)", true, false},
		// As it is written, whatever comes out.
		{"0*x*y", true, false}, {"x*0*y", true, false}, {"x*y*0", true, false}, {"x*y-x*y", true, false}, {"x*(y-y)", true, false}, {"(x-x)*(y-y)", true, false},
		{"1/(x-x+1)", true, false}, {"1/(0*x+1)", true, false}, {"x*y/y", true, false}, {"0*(x*y)", true, false}, {"0*(1/x)", true, false},
		// In Kids of Kids.
		{"k*(x+1)", true, true}, {"(x+1)*k", true, true}, {"(x+1)*(k+1)", true, true}, {"(x+1)*(k+y)", true, false}, {"(k+x)*(1+y)", true, false}, {"2*x*3", true, true},
		{"2*(x/2+y*k)/(3-k)", true, true}, {"2*(x/2+y*k)/(3-y)", true, false}, {"x*2+3*y", true, true}, {"x*2+3*y*x", true, false}, {"1+(2+(3+x*y))", true, false}, {"x*y+1+2+3", true, false},
		{"k*j*i/(k*j*i)", false, true}, {"(x*k)/(j*k)", true, true}, {"(x*k)/(j*y)", true, false}, {"k/(j/x)", true, false}, {"k/(j/i)+x", true, true}, {"k*(x*(j*(y+1)))", true, false}, {"k*(j*(i*(x+1)))", true, true},
		{"x/k/j", true, true}, {"k/x/j", true, false}, {"k/j/x", true, false}, {"k*j/x", true, false}, {"x*k/j", true, true},
	} {
		e := tree(c.text)
		if has, linear := check.Has(e, fields), check.Linear(e, fields); has != c.has || linear != c.linear {
			t.Errorf("%s: Has answers %v, Linear answers %v", c.text, has, linear)
		}
	}
}

// fieldLists are lists of fields that may be handed in.
func fieldLists() [][]string {
	return [][]string{
		nil, {}, {"x"}, {"y"}, {"x", "y"}, {"y", "x"}, {"x", "x"}, {"y", "x", "y"}, {"k"}, {"x", "k", "y"},
		{"none"}, {""}, {"X"}, {"2"}, {"x", "", "2"}, {"none", "x", "none"}, {"xy"}, {"X", "x y", "\xff", ""},
	}
}

func expectWalked(t *testing.T, e api.Expr, fields []string) {
	t.Helper()
	if has := hasOne(e, fields); check.Has(e, fields) != has {
		t.Fatal("Has answers", !has, "of", e, "and", fields)
	}
	if linear := isLinear(e, fields); check.Linear(e, fields) != linear {
		t.Fatal("Linear answers", !linear, "of", e, "and", fields)
	}
}

// P7.1: all small trees.
func TestHasAndLinearOfSmallTrees(t *testing.T) {
	for _, e := range few([]api.Expr{named("k"), named("x"), named("y")}) {
		for _, fields := range fieldLists() {
			expectWalked(t, e, fields)
		}
	}
}

// P7.1: Has asks for the names of chapter 5.
func TestHasAsksForNames(t *testing.T) {
	for _, e := range append(few([]api.Expr{tree("2"), named("k"), named("x")}), badExprs()...) {
		for _, fields := range fieldLists() {
			has := slices.ContainsFunc(expr.Names(e), func(name string) bool { return slices.Contains(fields, name) })
			if check.Has(e, fields) != has {
				t.Fatal("Has answers", !has, "of", e, "and", fields)
			}
		}
	}
}

// P7.1
func TestWithoutFieldsAllIsLinear(t *testing.T) {
	for _, e := range few([]api.Expr{tree("2"), named("x"), named("y")}) {
		for _, fields := range [][]string{nil, {}, make([]string, 0, 4)} {
			if check.Has(e, fields) || !check.Linear(e, fields) {
				t.Fatal("a field stands in", e)
			}
		}
	}
}

// P7.1: a field that stands twice in the list is one.
func TestFieldsThatStandTwice(t *testing.T) {
	for _, e := range few([]api.Expr{tree("2"), named("x"), named("y")}) {
		for _, fields := range [][]string{{"x"}, {"x", "y"}} {
			twice := slices.Concat(fields, fields, fields[:1])
			if check.Has(e, fields) != check.Has(e, twice) || check.Linear(e, fields) != check.Linear(e, twice) {
				t.Fatal("a field that stands twice makes a difference to", e)
			}
		}
	}
}

// P7.1: trees as deep as may be.
func TestDeepTrees(t *testing.T) {
	x, k := named("x"), named("k")
	for kind := api.ExprAdd; kind <= api.ExprNeg; kind++ {
		for _, isLeft := range []bool{true, false} {
			for _, leaf := range []api.Expr{x, k, mul(x, x), quot(k, x)} {
				for _, other := range []api.Expr{x, k} {
					e := chain(kind, api.MaxDeep-expr.Depth(leaf), leaf, other, isLeft)
					if !expr.Is(e) || expr.Depth(e) != api.MaxDeep {
						t.Fatal("the test's tree is not as deep as may be")
					}
					for _, fields := range fieldLists() {
						expectWalked(t, e, fields)
					}
				}
			}
		}
	}
}

// P7.1: trees with as many nodes as may be, with a field at any two leaves.
func TestTreesOfManyNodes(t *testing.T) {
	r := rand.New(rand.NewSource(71))
	fields := []string{"x", "y"}
	for range 80 {
		e := grownExpr(r, api.MaxNodes, []api.Expr{named("k"), named("j"), tree("0.5")})
		if expr.Nodes(e) != api.MaxNodes || !expr.Is(e) {
			t.Fatal("the test's tree has not as many nodes as may be")
		}
		expectWalked(t, e, fields)
		first := r.Intn(countLeaves(e))
		expectWalked(t, planted(e, first, named("x")), fields)
		for range 8 {
			expectWalked(t, planted(planted(e, first, named("x")), r.Intn(countLeaves(e)), named("y")), fields)
		}
	}
}

func countLeaves(e api.Expr) int {
	return len(slices.DeleteFunc(nodesOf(e), func(x api.Expr) bool { return len(x.Kids) > 0 }))
}

// planted is a copy of a tree with another leaf at one place, counted from the
// left.
func planted(e api.Expr, place int, leaf api.Expr) api.Expr {
	var walk func(e api.Expr) api.Expr
	walk = func(e api.Expr) api.Expr {
		if len(e.Kids) == 0 {
			place--
			if place == -1 {
				return leaf
			}
			return e
		}
		e.Kids = slices.Clone(e.Kids)
		for i, kid := range e.Kids {
			e.Kids[i] = walk(kid)
		}
		return e
	}
	return walk(e)
}

// P7.1
func TestRandomTrees(t *testing.T) {
	r := rand.New(rand.NewSource(72))
	leaves := []api.Expr{named("x"), named("y"), named("k"), named("j"), named("i"), tree("2"), tree("0")}
	for range 20000 {
		e := grownExpr(r, 1+r.Intn(40), leaves[r.Intn(3):])
		expectWalked(t, e, fieldLists()[r.Intn(len(fieldLists()))])
	}
}

// P7.1, W1: expressions that may not be are walked as they stand.
func TestHasAndLinearOfWhatMayNotBe(t *testing.T) {
	for _, e := range badExprs() {
		if expr.Is(e) {
			t.Fatal("the test's expression may be:", e)
		}
		for _, fields := range fieldLists() {
			expectWalked(t, e, fields)
			expectWalked(t, neg(e), fields)
			expectWalked(t, mul(e, named("x")), fields)
			expectWalked(t, quot(named("x"), e), fields)
		}
	}
}

// W1: trees far beyond what may be are gone through once.
func TestGreatTrees(t *testing.T) {
	const deep = 1<<16 - 2
	x, k := named("x"), named("k")
	var fields []string
	for i := range 1 << 16 {
		fields = append(fields, "x"+times("0", i%50)+string(rune('a'+i%26)))
	}
	withX := append(slices.Clone(fields), "x")
	for kind := api.ExprAdd; kind <= api.ExprNeg; kind++ {
		for _, isLeft := range []bool{true, false} {
			for _, other := range []api.Expr{x, k} {
				e := chain(kind, deep, x, other, isLeft)
				isCrossed := kind == api.ExprMul && other.Name == "x"
				divides := kind == api.ExprDiv && (other.Name == "x" || !isLeft)
				if !check.Has(e, withX) || check.Linear(e, withX) != (!isCrossed && !divides) {
					t.Fatal("a deep tree of kind", kind)
				}
				if check.Has(e, fields) || !check.Linear(e, fields) {
					t.Fatal("a deep tree of kind", kind, "without a field")
				}
			}
		}
		wide := node(kind, append(slices.Repeat([]api.Expr{k}, 1<<18), x)...)
		if !check.Has(wide, withX) || check.Linear(wide, withX) != (kind != api.ExprDiv) {
			t.Fatal("a wide tree of kind", kind)
		}
	}
}

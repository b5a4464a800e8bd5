package elab_test

import (
	"math/big"
	"math/rand"
	"slices"
	"strconv"
	"strings"
	"testing"

	"pantograph/api"
	"pantograph/elab"
	"pantograph/expr"
	"pantograph/sheet"
)

const most = 1<<32 - 1

func times(s string, n int) string { return strings.Repeat(s, n) }

func lines(list ...string) []string { return list }

// form is a form of lines of the tests.
func form(lines ...string) api.Form {
	text := strings.Join(lines, "\n")
	f, line, err := sheet.Parse(text)
	if err != api.OK {
		panic("line " + strconv.Itoa(line) + " of the test's form is none:\n" + text)
	}
	return f
}

// tree is an expression of a text of the tests.
func tree(s string) api.Expr {
	e, _, err := expr.Parse(s)
	if err != api.OK {
		panic("the test's expression is none: " + s)
	}
	return e
}

func named(s string) api.Expr { return api.Expr{Kind: api.ExprName, Name: s} }

func node(kind int, kids ...api.Expr) api.Expr { return api.Expr{Kind: kind, Kids: kids} }

// ratOf is a number as it is written, normal or not.
func ratOf(neg bool, n, d []uint32) api.Rat { return api.Rat{Neg: neg, N: n, D: d} }

// small is a number of small parts, as they are written.
func small(n int, d uint32) api.Rat {
	if n < 0 {
		return ratOf(true, []uint32{uint32(-n)}, []uint32{d})
	}
	return ratOf(false, []uint32{uint32(n)}, []uint32{d})
}

func whole(n int) api.Rat { return normal(big.NewRat(int64(n), 1)) }

// wholes are params of whole numbers.
func wholes(list ...int) []api.Rat {
	var params []api.Rat
	for _, n := range list {
		params = append(params, whole(n))
	}
	return params
}

// row is a row of limbs that are all ones: the greatest number of so many.
func row(count int) []uint32 { return slices.Repeat([]uint32{most}, count) }

// greatest is the greatest number that is not Large.
func greatest() api.Rat { return ratOf(false, row(api.MaxLimbs), []uint32{1}) }

// least is the least one above 0 that is not Large.
func least() api.Rat { return ratOf(false, []uint32{1}, row(api.MaxLimbs)) }

func natural(a []uint32) *big.Int {
	n := new(big.Int)
	for _, limb := range slices.Backward(a) {
		n.Lsh(n, 32)
		n.Or(n, new(big.Int).SetUint64(uint64(limb)))
	}
	return n
}

func limbs(n *big.Int) []uint32 {
	var a []uint32
	for n = new(big.Int).Abs(n); n.Sign() > 0; n.Rsh(n, 32) {
		a = append(a, uint32(new(big.Int).And(n, big.NewInt(most)).Uint64()))
	}
	return a
}

// value is a number of the library: what the answers are held against is
// worked out without the packages of the project.
func value(a api.Rat) *big.Rat {
	n, d := natural(a.N), natural(a.D)
	if d.Sign() == 0 {
		return new(big.Rat)
	}
	if a.Neg {
		n.Neg(n)
	}
	return new(big.Rat).SetFrac(n, d)
}

// normal is a number of the library as the document writes it.
func normal(x *big.Rat) api.Rat {
	return ratOf(x.Sign() < 0, limbs(x.Num()), limbs(x.Denom()))
}

// alike tells whether two numbers are written alike, limb by limb.
func alike(a, b api.Rat) bool {
	return a.Neg == b.Neg && slices.Equal(a.N, b.N) && slices.Equal(a.D, b.D)
}

func alikeCons(a, b api.Con) bool {
	return a.Strength == b.Strength && alike(a.K, b.K) && slices.EqualFunc(a.Terms, b.Terms, func(x, y api.Term) bool {
		return x.Var == y.Var && alike(x.C, y.C)
	})
}

func alikeActives(a, b elab.Active) bool {
	return slices.Equal(a.Rules, b.Rules) && slices.EqualFunc(a.Cons, b.Cons, alikeCons)
}

func isNothing(a elab.Active) bool { return len(a.Cons) == 0 && len(a.Rules) == 0 }

// inWords are constraints of a form, each behind its rule's number: its
// strength, each number with its field, then K.
func inWords(f api.Form, a elab.Active) string {
	var words []string
	for i, c := range a.Cons {
		text := strconv.Itoa(a.Rules[i]) + " " + []string{"required", "strong", "medium", "weak", "stay"}[c.Strength]
		for _, t := range c.Terms {
			text += " " + value(t.C).RatString() + f.Fields[t.Var].Name
		}
		words = append(words, text+" "+value(c.K).RatString())
	}
	return strings.Join(words, "; ")
}

// outcome is what Elab answers, in words.
func outcome(f api.Form, params []api.Rat, on []bool) string {
	a, name, err := elab.Elab(f, params, on)
	if err == api.OK && name == "" && len(a.Cons) == len(a.Rules) {
		return inWords(f, a)
	}
	if err == api.OK || !isNothing(a) {
		return "what may not be answered"
	}
	return strings.TrimSpace(errorWord(err) + " " + name)
}

func errorWord(err api.Errno) string {
	switch err {
	case api.ErrArg:
		return "arg"
	case api.ErrForm:
		return "form"
	case api.ErrLong:
		return "long"
	case api.ErrName:
		return "name"
	case api.ErrLinear:
		return "linear"
	case api.ErrZero:
		return "zero"
	case api.ErrLarge:
		return "large"
	}
	return err.Error()
}

func expectOutcome(t *testing.T, f api.Form, params []api.Rat, on []bool, want string) {
	t.Helper()
	if got := outcome(f, params, on); got != want {
		text := sheet.Print(f)
		t.Fatalf("Elab answers %q, not %q, of\n%s%v %v", got, want, text[:min(len(text), 1000)], params, on)
	}
}

// valsOf are the form's own numbers.
func valsOf(f api.Form) []api.Rat {
	var params []api.Rat
	for _, x := range f.Params {
		params = append(params, x.Val)
	}
	return params
}

// statesOf are the form's own switches.
func statesOf(f api.Form) []bool {
	var on []bool
	for _, x := range f.Switches {
		on = append(on, x.On)
	}
	return on
}

// expectOwn does so with the form's own numbers and switches.
func expectOwn(t *testing.T, f api.Form, want string) {
	t.Helper()
	expectOutcome(t, f, valsOf(f), statesOf(f), want)
}

// roughRats are numbers that are not normal.
func roughRats() []api.Rat {
	return []api.Rat{
		{}, {Neg: true}, ratOf(false, []uint32{1}, nil), ratOf(false, nil, []uint32{0}), small(0, 1), small(0, 5), ratOf(false, nil, []uint32{5}), ratOf(true, nil, []uint32{1}), small(5, 0), small(-5, 0),
		small(2, 2), small(-3, 3), small(6, 4), small(-6, 4), ratOf(false, []uint32{3, 0}, []uint32{2}), ratOf(false, []uint32{3}, []uint32{2, 0}), ratOf(true, []uint32{0, 1, 0}, []uint32{3}), ratOf(false, []uint32{0, 1}, []uint32{0, 3}),
		ratOf(false, append(row(api.MaxLimbs), 0), []uint32{1}), ratOf(false, []uint32{1}, append(row(api.MaxLimbs), 0)), ratOf(false, row(api.MaxLimbs), row(api.MaxLimbs)), ratOf(true, row(api.MaxLimbs+1), row(api.MaxLimbs+1)),
	}
}

// largeRats are numbers that are Large, and normal.
func largeRats() []api.Rat {
	one := []uint32{1}
	next := append(make([]uint32, api.MaxLimbs), 1)
	return []api.Rat{
		ratOf(false, next, one), ratOf(true, next, one), ratOf(false, one, next), ratOf(true, one, next), ratOf(false, row(api.MaxLimbs+1), one), ratOf(false, one, row(api.MaxLimbs+1)), ratOf(false, row(api.MaxLimbs+2), next),
		ratOf(true, next, row(api.MaxLimbs)), ratOf(false, row(api.MaxLimbs), next), ratOf(false, row(1<<10), one), ratOf(false, one, row(1<<10)),
	}
}

// fineRats are numbers that are normal and not Large.
func fineRats() []api.Rat {
	one := []uint32{1}
	return []api.Rat{
		ratOf(false, nil, one), small(1, 1), small(-1, 1), small(3, 2), small(-2, 3), greatest(), least(), ratOf(true, row(api.MaxLimbs), one), ratOf(true, one, row(api.MaxLimbs)),
		ratOf(false, append(make([]uint32, api.MaxLimbs-1), 1), row(api.MaxLimbs)), ratOf(true, row(api.MaxLimbs), append(make([]uint32, api.MaxLimbs-1), 1)), ratOf(false, row(api.MaxLimbs-1), one),
	}
}

// grown is a tree of some so many nodes, of the first kinds of two Kids and of
// Neg, that is not deep.
func grown(r *rand.Rand, nodes int, leaves []api.Expr, kinds int) api.Expr {
	if nodes <= 1 {
		return leaves[r.Intn(len(leaves))]
	}
	if nodes == 2 || r.Intn(12) == 0 {
		return node(api.ExprNeg, grown(r, nodes-1, leaves, kinds))
	}
	left := min(1+(nodes-2)*(1+r.Intn(3))/4, nodes-2)
	return node(api.ExprAdd+r.Intn(kinds), grown(r, left, leaves, kinds), grown(r, nodes-1-left, leaves, kinds))
}

package expr_test

import (
	"slices"
	"strings"
	"testing"
	"unsafe"

	"pantograph/api"
	"pantograph/expr"
)

const spare = 0xa5a5a5a5

// roomyRow is a copy of a row with room behind its end, which has marks in it.
func roomyRow(a []uint32) []uint32 {
	return slices.Concat(a, []uint32{spare, spare, spare, spare})[:len(a)]
}

// loan is a text in memory that can be changed.
func loan(s string) string {
	if s == "" {
		return ""
	}
	b := []byte(s)
	return unsafe.String(&b[0], len(b))
}

// spoil changes the bytes of a text that was a loan, or an answer that shares
// memory with one.
func spoil(s string) {
	for i := range unsafe.Slice(unsafe.StringData(s), len(s)) {
		unsafe.Slice(unsafe.StringData(s), len(s))[i] = '?'
	}
}

// roomy is a copy of an expression on loan, whose lists have marked room.
func roomy(e api.Expr) api.Expr {
	x := api.Expr{Kind: e.Kind, Name: loan(e.Name), Num: ratOf(e.Num.Neg, roomyRow(e.Num.N), roomyRow(e.Num.D))}
	if len(e.Kids) == 0 {
		return x
	}
	for _, kid := range e.Kids {
		x.Kids = append(x.Kids, roomy(kid))
	}
	mark := api.Expr{Kind: -7, Name: "spare", Num: small(7, 3)}
	x.Kids = append(x.Kids, mark, mark)[:len(e.Kids)]
	return x
}

// wholeOf copies an expression with all spare room of its lists, as far as its
// own nodes go.
func wholeOf(e api.Expr) []api.Expr {
	x := api.Expr{Kind: e.Kind, Name: strings.Clone(e.Name)}
	x.Num = ratOf(e.Num.Neg, slices.Clone(e.Num.N[:cap(e.Num.N)]), slices.Clone(e.Num.D[:cap(e.Num.D)]))
	list := []api.Expr{x}
	for i, kid := range e.Kids[:cap(e.Kids)] {
		if i < len(e.Kids) {
			list = append(list, wholeOf(kid)...)
		} else {
			list = append(list, api.Expr{Kind: kid.Kind, Name: strings.Clone(kid.Name)})
		}
	}
	return list
}

func equalAll(a, b []api.Expr) bool { return slices.EqualFunc(a, b, alike) }

func overwriteRow(a []uint32) {
	for i := range a[:cap(a)] {
		a[:cap(a)][i] ^= 0x5a5a5a5a
	}
}

// overwrite spoils an expression, with the spare room of its lists.
func overwrite(e api.Expr) {
	overwriteRow(e.Num.N)
	overwriteRow(e.Num.D)
	for _, kid := range e.Kids {
		overwrite(kid)
	}
	for i := range e.Kids[:cap(e.Kids)] {
		e.Kids[:cap(e.Kids)][i] = api.Expr{Kind: -9, Name: "spoilt"}
	}
}

// spoilNames does so to the names of an expression on loan.
func spoilNames(e api.Expr) {
	spoil(e.Name)
	for _, kid := range e.Kids {
		spoilNames(kid)
	}
}

// handed are expressions of all kinds, some of which may not be.
func handed() []api.Expr {
	var list []api.Expr
	for _, x := range slices.Concat(lone(), few()[:150], chains(31, named("a")), chains(40, named("a"))) {
		list = append(list, exprOf(x))
	}
	for _, x := range few()[40:60] {
		list = append(list, everywhere(exprOf(x), spoilt)...)
		list = append(list, everywhere(exprOf(x), rewritten)...)
	}
	return list
}

// answers are those of all calls to which an expression is handed in.
func answers(e api.Expr) (string, []string, [4]int) {
	var counts [4]int
	counts[0], counts[1] = expr.Depth(e), expr.Nodes(e)
	if expr.Is(e) {
		counts[2] = 1
	}
	if expr.Same(e, e) {
		counts[3] = 1
	}
	return expr.Print(e), expr.Names(e), counts
}

// P5.4
func TestMemoryIsNeitherChangedNorKept(t *testing.T) {
	for _, was := range handed() {
		e := roomy(was)
		before := wholeOf(e)
		text, names, counts := answers(e)
		if !equalAll(wholeOf(e), before) {
			t.Fatal("what is handed in is changed:", was)
		}
		wantText, wantNames := strings.Clone(text), make([]string, len(names))
		for i, name := range names {
			wantNames[i] = strings.Clone(name)
		}
		spoilNames(e)
		overwrite(e)
		if text != wantText || !slices.Equal(names, wantNames) {
			t.Fatal("what is answered shares memory with what was handed in:", was)
		}
		again, namesAgain, countsAgain := answers(roomy(was))
		if again != wantText || !slices.Equal(namesAgain, wantNames) || countsAgain != counts {
			t.Fatal("calls answer something else the second time:", was)
		}
	}
}

// P5.4: two expressions may share memory.
func TestSameOfExpressionsThatShareMemory(t *testing.T) {
	for _, was := range handed() {
		a := roomy(was)
		b := a
		b.Kids = a.Kids[:len(a.Kids)/2]
		before := wholeOf(a)
		if expr.Same(a, b) != (len(a.Kids) == 0) || expr.Same(a, roomy(was)) != true {
			t.Fatal("Same of expressions that share memory:", was)
		}
		if !equalAll(wholeOf(a), before) {
			t.Fatal("Same changes what is handed in:", was)
		}
	}
}

// P5.4
func TestNamesAnswersNewMemory(t *testing.T) {
	for _, x := range few() {
		e := exprOf(x)
		first, second := expr.Names(e), expr.Names(e)
		want := once(x.names())
		for i := range first[:cap(first)] {
			first[:cap(first)][i] = "spoilt"
		}
		if !slices.Equal(second, want) || !slices.Equal(expr.Names(e), want) || !alike(e, exprOf(x)) {
			t.Fatal("Names answers memory that is shared:", x)
		}
	}
}

// lists are all lists of an expression, told by where they begin.
func lists(e api.Expr) []unsafe.Pointer {
	var list []unsafe.Pointer
	if cap(e.Num.N) > 0 {
		list = append(list, unsafe.Pointer(unsafe.SliceData(e.Num.N)))
	}
	if cap(e.Num.D) > 0 {
		list = append(list, unsafe.Pointer(unsafe.SliceData(e.Num.D)))
	}
	if cap(e.Kids) > 0 {
		list = append(list, unsafe.Pointer(unsafe.SliceData(e.Kids)))
	}
	for _, kid := range e.Kids {
		list = append(list, lists(kid)...)
	}
	return list
}

// P5.4, W6: no two lists of one answer share memory, nor those of two.
func TestParseAnswersNewMemory(t *testing.T) {
	for _, s := range []string{"a", "1", "0", "1.5", "a+b", "a-a", "1-1", "0*0", "-1", "--1", "a*(a-1)/(1-a)", "1+1+1+1", "(1+1)*(1+1)", "a*(2.5-b)-12345678901234567890/c", times("-", 31) + "a", "a" + times("*0.5", 31)} {
		text := loan(s)
		first, _, err := expr.Parse(text)
		second, _, _ := expr.Parse(text)
		if err != api.OK || !alike(first, second) {
			t.Fatal("Parse", s, first, second, err)
		}
		all := append(lists(first), lists(second)...)
		for i, one := range all {
			if slices.Contains(all[:i], one) {
				t.Fatal("Parse answers lists that share memory:", s)
			}
		}
		want, _, _ := read(s)
		spoil(text)
		if !alike(first, exprOf(want)) {
			t.Fatal("Parse answers memory that was handed in:", s, first)
		}
		overwrite(first)
		third, _, _ := expr.Parse(s)
		if !alike(second, exprOf(want)) || !alike(third, exprOf(want)) {
			t.Fatal("Parse has kept memory:", s, second, third)
		}
	}
}

// W7: an answer stays, whatever is called later.
func TestAnswersStay(t *testing.T) {
	var trees []tree
	var parsed []api.Expr
	var names [][]string
	for _, x := range few() {
		s, _ := x.text()
		e, _, _ := expr.Parse(s)
		trees, parsed, names = append(trees, x), append(parsed, e), append(names, expr.Names(e))
		expr.Print(e)
	}
	for i, x := range trees {
		if !alike(parsed[i], exprOf(x)) || !slices.Equal(names[i], once(x.names())) {
			t.Fatal("an answer changes later:", x)
		}
	}
}

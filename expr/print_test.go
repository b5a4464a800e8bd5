package expr_test

import (
	"math/rand"
	"slices"
	"strings"
	"testing"

	"pantograph/api"
	"pantograph/expr"
)

// P5.2
func TestPrintByHand(t *testing.T) {
	a, b, c := named("a"), named("b"), named("c")
	one := number("1")
	for _, x := range []struct {
		e    tree
		want string
	}{
		{a, "a"}, {one, "1"}, {number("0"), "0"}, {number("1/2"), "0.5"}, {number("25/2"), "12.5"}, {number("1/1000"), "0.001"}, {number("4294967296"), "4294967296"},
		{add(a, b), "a + b"}, {sub(a, b), "a - b"}, {mul(a, b), "a * b"}, {div(a, b), "a / b"}, {neg(a), "-a"}, {neg(one), "-1"}, {neg(neg(a)), "--a"},
		// On the left of + and -.
		{add(add(a, b), c), "a + b + c"}, {add(sub(a, b), c), "a - b + c"}, {sub(add(a, b), c), "a + b - c"}, {sub(sub(a, b), c), "a - b - c"},
		{add(mul(a, b), c), "a * b + c"}, {add(div(a, b), c), "a / b + c"}, {sub(mul(a, b), c), "a * b - c"}, {sub(div(a, b), c), "a / b - c"}, {add(neg(a), b), "-a + b"}, {sub(neg(a), b), "-a - b"},
		// On their right.
		{add(a, add(b, c)), "a + (b + c)"}, {add(a, sub(b, c)), "a + (b - c)"}, {sub(a, add(b, c)), "a - (b + c)"}, {sub(a, sub(b, c)), "a - (b - c)"},
		{add(a, mul(b, c)), "a + b * c"}, {add(a, div(b, c)), "a + b / c"}, {sub(a, mul(b, c)), "a - b * c"}, {sub(a, div(b, c)), "a - b / c"}, {add(a, neg(b)), "a + -b"}, {sub(a, neg(b)), "a - -b"}, {sub(a, neg(neg(b))), "a - --b"},
		// On the left of * and /.
		{mul(add(a, b), c), "(a + b) * c"}, {mul(sub(a, b), c), "(a - b) * c"}, {div(add(a, b), c), "(a + b) / c"}, {div(sub(a, b), c), "(a - b) / c"},
		{mul(mul(a, b), c), "a * b * c"}, {mul(div(a, b), c), "a / b * c"}, {div(mul(a, b), c), "a * b / c"}, {div(div(a, b), c), "a / b / c"}, {mul(neg(a), b), "-a * b"}, {div(neg(a), b), "-a / b"},
		// On their right.
		{mul(a, add(b, c)), "a * (b + c)"}, {mul(a, sub(b, c)), "a * (b - c)"}, {div(a, add(b, c)), "a / (b + c)"}, {div(a, sub(b, c)), "a / (b - c)"},
		{mul(a, mul(b, c)), "a * (b * c)"}, {mul(a, div(b, c)), "a * (b / c)"}, {div(a, mul(b, c)), "a / (b * c)"}, {div(a, div(b, c)), "a / (b / c)"}, {mul(a, neg(b)), "a * -b"}, {div(a, neg(b)), "a / -b"},
		// Behind a - ahead.
		{neg(add(a, b)), "-(a + b)"}, {neg(sub(a, b)), "-(a - b)"}, {neg(mul(a, b)), "-(a * b)"}, {neg(div(a, b)), "-(a / b)"}, {neg(neg(sub(a, b))), "--(a - b)"}, {neg(mul(neg(a), neg(b))), "-(-a * -b)"},
		{sub(a, mul(sub(b, c), number("2"))), "a - (b - c) * 2"}, {mul(number("2"), neg(add(a, one))), "2 * -(a + 1)"}, {sub(neg(mul(a, b)), neg(sub(b, c))), "-(a * b) - -(b - c)"},
	} {
		expectPrinted(t, x.e, x.want)
	}
}

// expectPrinted also holds what is read of it against it: P5.4.
func expectPrinted(t *testing.T, x tree, want string) {
	t.Helper()
	e := exprOf(x)
	s := expr.Print(e)
	if s != want {
		t.Fatalf("Print is %q, not %q", s, want)
	}
	got, at, err := expr.Parse(s)
	if err != api.OK || at != 0 || !alike(got, e) || !expr.Same(got, e) {
		t.Fatalf("Parse of Print, %q, is %v, %v at %d", s, got, err, at)
	}
}

// P5.2, P5.4
func TestPrintOnManyTrees(t *testing.T) {
	trees := slices.Concat(lone(), few(), chains(31, named("a")), chains(31, number("0.5")), chains(30, neg(named("b"))))
	for nodes := range 257 {
		trees = append(trees, full(max(nodes, 1)))
	}
	r := rand.New(rand.NewSource(7))
	for range 2000 {
		if x := grown(r, 1+r.Intn(1+r.Intn(300))); x.mayBe() {
			trees = append(trees, x)
		}
	}
	for _, x := range trees {
		s, _ := x.text()
		expectPrinted(t, x, s)
	}
}

// P5.2: without any one pair of its brackets a text would be another
// expression: they stand just where they are asked for.
func TestPrintHasNoBracketsTooMany(t *testing.T) {
	for _, x := range few() {
		e := exprOf(x)
		s := expr.Print(e)
		for _, pair := range pairs(s) {
			less := s[:pair[0]] + s[pair[0]+1:pair[1]] + s[pair[1]+1:]
			if got, _, err := expr.Parse(less); err == api.OK && expr.Same(got, e) {
				t.Fatalf("Print is %q, which %q is, too", s, less)
			}
		}
	}
}

// pairs are where brackets are opened and closed.
func pairs(s string) [][2]int {
	var open []int
	var list [][2]int
	for i := range len(s) {
		switch s[i] {
		case '(':
			open = append(open, i)
		case ')':
			list = append(list, [2]int{open[len(open)-1], i})
			open = open[:len(open)-1]
		}
	}
	return list
}

// P5.2: nothing of what may not be; P5.3's tests have the nodes that may not.
func TestPrintOfWhatMayNotBe(t *testing.T) {
	for _, x := range slices.Concat(chains(32, named("a")), chains(33, number("1")), []tree{full(257), full(258), full(999)}) {
		if s := expr.Print(exprOf(x)); s != "" {
			t.Errorf("Print of what may not be: %.80q", s)
		}
	}
}

// P5.4: what is read is printed and read again, whatever blanks and brackets
// it had.
func TestPrintOfParse(t *testing.T) {
	for _, x := range []struct{ s, want string }{
		{"a-(b-c)*2", "a - (b - c) * 2"}, {" ( ( a ) ) ", "a"}, {"(a+b)+c", "a + b + c"}, {"a+(b*c)", "a + b * c"}, {"(a*b)+c", "a * b + c"}, {"(-a)*b", "-a * b"}, {"-(a)", "-a"}, {"- - a", "--a"}, {"a- -b", "a - -b"}, {"a*(-b)", "a * -b"},
		{"007.500", "7.5"}, {"0.0", "0"}, {"-0", "-0"}, {"1/3", "1 / 3"}, {"a-(b)", "a - b"}, {"(1+2)*3", "(1 + 2) * 3"}, {"1+(2+3)", "1 + (2 + 3)"}, {"(((a-b)))-(((c-d)))", "a - b - (c - d)"},
	} {
		e, _, err := expr.Parse(x.s)
		if got := expr.Print(e); err != api.OK || got != x.want {
			t.Errorf("Print of Parse of %q is %q, %v", x.s, got, err)
		}
	}
	r := rand.New(rand.NewSource(8))
	for range 20000 {
		var b strings.Builder
		for range r.Intn(40) {
			b.WriteString([]string{"(", "-", "a", "1.50", "a", "b)", ")", "+", "*", " ", "/", "(-", "c-", "2.5*"}[r.Intn(14)])
		}
		e, _, err := expr.Parse(b.String())
		if err != api.OK {
			continue
		}
		got, _, err := expr.Parse(expr.Print(e))
		if err != api.OK || !alike(got, e) {
			t.Fatalf("Parse of Print of %q is %v", b.String(), got)
		}
	}
}

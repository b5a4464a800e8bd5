package expr_test

import (
	"math/rand"
	"strings"
	"testing"

	"pantograph/api"
)

func times(s string, n int) string { return strings.Repeat(s, n) }

// P5.1
func TestParseByHand(t *testing.T) {
	a, b, c, d := named("a"), named("b"), named("c"), named("d")
	one, two := number("1"), number("2")
	for _, x := range []struct {
		s    string
		want tree
	}{
		{"a", a}, {"0", number("0")}, {"000", number("0")}, {"007", number("7")}, {"12.50", number("12.5")}, {"0.0", number("0")}, {"00.100", number("0.1")},
		{"a_9", named("a_9")}, {"z__", named("z__")}, {"a1b2", named("a1b2")}, {"4294967296.5", number("8589934593/2")},
		{"a+b", add(a, b)}, {"a-b", sub(a, b)}, {"a*b", mul(a, b)}, {"a/b", div(a, b)}, {"-a", neg(a)}, {"-1", neg(one)}, {"--a", neg(neg(a))}, {"---a", neg(neg(neg(a)))},
		{"a+b+c", add(add(a, b), c)}, {"a-b-c", sub(sub(a, b), c)}, {"a+b-c", sub(add(a, b), c)}, {"a-b+c", add(sub(a, b), c)}, {"a-b+c-d", sub(add(sub(a, b), c), d)},
		{"a*b*c", mul(mul(a, b), c)}, {"a/b/c", div(div(a, b), c)}, {"a*b/c", div(mul(a, b), c)}, {"a/b*c", mul(div(a, b), c)}, {"a/b*c/d", div(mul(div(a, b), c), d)},
		{"a+b*c", add(a, mul(b, c))}, {"a*b+c", add(mul(a, b), c)}, {"a-b/c", sub(a, div(b, c))}, {"a/b-c", sub(div(a, b), c)}, {"a+b*c-d", sub(add(a, mul(b, c)), d)},
		{"a*b-c/d", sub(mul(a, b), div(c, d))}, {"a-b*c/d+a", add(sub(a, div(mul(b, c), d)), a)},
		{"-a+b", add(neg(a), b)}, {"-a-b", sub(neg(a), b)}, {"-a*b", mul(neg(a), b)}, {"-a/b", div(neg(a), b)}, {"a+-b", add(a, neg(b))}, {"a--b", sub(a, neg(b))}, {"a---b", sub(a, neg(neg(b)))},
		{"a*-b", mul(a, neg(b))}, {"a/-b", div(a, neg(b))}, {"a*--b", mul(a, neg(neg(b)))}, {"a*-b*c", mul(mul(a, neg(b)), c)}, {"a*-b+c", add(mul(a, neg(b)), c)}, {"--a*b", mul(neg(neg(a)), b)},
		{"(a)", a}, {"((a))", a}, {"(1)", one}, {"(-a)", neg(a)}, {"-(a)", neg(a)}, {"-(-a)", neg(neg(a))}, {"(--a)", neg(neg(a))},
		{"a-(b-c)", sub(a, sub(b, c))}, {"(a-b)-c", sub(sub(a, b), c)}, {"a/(b/c)", div(a, div(b, c))}, {"a/(b*c)", div(a, mul(b, c))}, {"(a+b)*c", mul(add(a, b), c)}, {"a*(b+c)", mul(a, add(b, c))},
		{"-(a+b)", neg(add(a, b))}, {"-(a*b)", neg(mul(a, b))}, {"-(a+b)*c", mul(neg(add(a, b)), c)}, {"(a+b)/(c-d)", div(add(a, b), sub(c, d))}, {"((a+b)*(c+d))", mul(add(a, b), add(c, d))},
		{"a-(b-c)*2", sub(a, mul(sub(b, c), two))}, {"2*(a+1)-a", sub(mul(two, add(a, one)), a)}, {"(a)*(b)", mul(a, b)}, {"(a)+b", add(a, b)},
		{" a ", a}, {"   a", a}, {"a   ", a}, {" a + b ", add(a, b)}, {"a  +  b", add(a, b)}, {"- a", neg(a)}, {"- - a", neg(neg(a))}, {"a - - b", sub(a, neg(b))}, {"( a )", a}, {" ( ( a ) ) ", a},
		{" 1 * ( a - 2 ) / b ", div(mul(one, sub(a, two)), b)}, {" - ( a )", neg(a)}, {"1 /2", div(one, two)}, {"1/ 2", div(one, two)}, {"1-1", sub(one, one)}, {"1--1", sub(one, neg(one))}, {"a1-1", sub(named("a1"), one)},
		{"1.5*2.25", mul(number("1.5"), number("2.25"))}, {"0.1+0.2", add(number("0.1"), number("0.2"))},
	} {
		expectParsed(t, x.s, x.want)
		checkParse(t, x.s)
	}
}

// P5.1: where a text can't go on, and at its end.
func TestParseRefusesByHand(t *testing.T) {
	for _, x := range []struct {
		s  string
		at int
	}{
		{"", 0}, {" ", 1}, {"     ", 5}, {"-", 1}, {"--", 2}, {" - ", 3}, {"+", 0}, {"*", 0}, {"/", 0}, {"  *", 2}, {"+a", 0}, {"(+a)", 1}, {"*a", 0}, {"/a", 0},
		{"a+", 2}, {"a-", 2}, {"a*", 2}, {"a/", 2}, {"a + ", 4}, {"a+b*", 4}, {"a*b-", 4}, {"a-b  /   ", 9}, {"a++b", 2}, {"a+*b", 2}, {"a*/b", 2}, {"a-+b", 2}, {"a**b", 2}, {"a//b", 2}, {"a -- ", 5}, {"-+a", 1}, {"-*a", 1},
		{"(", 1}, {"()", 1}, {"( )", 2}, {")", 0}, {" )", 1}, {"(a", 2}, {"((a)", 4}, {"(a+b", 4}, {"(a ", 3}, {"(((", 3}, {"a)", 1}, {"(a))", 3}, {"a+b)", 3}, {"a )", 2}, {"(a+)", 3}, {"(-)", 2}, {"a+()", 3}, {"a*)", 2}, {"(a))+b", 3}, {"(a+b))*(c", 5},
		{"a b", 2}, {"a 1", 2}, {"1 a", 2}, {"1 2", 2}, {"a(b)", 1}, {"a (b)", 2}, {"(a)(b)", 3}, {"(a) b", 4}, {"(a)b", 3}, {"1(a)", 1}, {"(a)1", 3}, {"2a", 1}, {"12x", 2}, {"1.5x", 3}, {"1_0", 1}, {"1e5", 1}, {"0x1", 1},
		{".", 0}, {".5", 0}, {"5.", 2}, {"5. ", 2}, {"5.+1", 2}, {"5.x", 2}, {"5..5", 2}, {"5.5.5", 3}, {"5 .5", 2}, {"5. 5", 2}, {"5.-5", 2}, {"a.5", 1}, {"a.b", 1}, {"a+.5", 2}, {"a+5.", 4}, {"(5.)", 3}, {"(.5)", 1}, {"-.5", 1}, {"1,5", 1},
		{"_", 0}, {"_a", 0}, {"A", 0}, {"aB", 1}, {"a-B", 2}, {"a+_", 2}, {"a_+_a", 3}, {"a'", 1}, {"a^b", 1}, {"a%b", 1}, {"a=b", 1}, {"a<b", 1}, {"a:b", 1}, {"#", 0}, {"[a]", 0}, {"{a}", 0}, {"a\"", 1}, {"a|b", 1}, {"~a", 0}, {"!a", 0}, {"a&b", 1},
		{"\t", 0}, {"a\t", 1}, {"a\t+b", 1}, {"a+\tb", 2}, {"\na", 0}, {"a\n", 1}, {"a\r\n", 1}, {"\x00", 0}, {"a\x00", 1}, {"a+\x00", 2}, {"\x00a", 0}, {"\x80", 0}, {"a\xff", 1}, {"a+\xff", 2}, {"a \xc3\xa9", 2}, {"\u00e9", 0}, {"a\u00e9", 1}, {"a\u00a0+b", 1}, {"\ufeffa", 0},
		{"a\u2212b", 1}, {"a\u00d7b", 1}, {"\u0661", 0}, {"1\u0661", 1}, {"1.\u0661", 2}, {"\uff41", 0}, {"a\uff08", 1}, {"a\u0301", 1}, {"\v", 0}, {"a\f", 1}, {"\x7fa", 0},
		// Of two errors the one that is met first is told.
		{"a+)(", 2}, {"a b c", 2}, {"a)+", 1}, {"(a b", 3}, {"5.+)", 2}, {"A+5.", 0}, {"a+B)(", 2},
	} {
		expectRefused(t, x.s, x.at, api.ErrForm)
		checkParse(t, x.s)
	}
}

// P5.1
func TestParseOfLongNames(t *testing.T) {
	for _, name := range []string{"a" + times("b", 23), times("z", 24), "a" + times("9", 23), "a" + times("_", 23), "a_" + times("0", 22)} {
		expectParsed(t, name, named(name))
		expectParsed(t, " "+name+" - "+name, sub(named(name), named(name)))
		expectParsed(t, "("+name+")", named(name))
		expectRefused(t, name+".", 24, api.ErrForm)
		for _, more := range []string{"a", "z", "0", "9", "_", "a+b", "_______", times("x", 1000), "A", "\xff", "("} {
			expectRefused(t, name+more, 24, api.ErrForm)
			expectRefused(t, " ( -"+name+more+")", 28, api.ErrForm)
			expectRefused(t, "1*"+name+more+"$", 26, api.ErrForm)
		}
		expectRefused(t, name+" x", 25, api.ErrForm)
		expectParsed(t, name+"+b", add(named(name), named("b")))
		expectParsed(t, name[:23]+"*"+name[:23], mul(named(name[:23]), named(name[:23])))
	}
}

// P5.1: a number of too many bytes is no error at a byte: what is met further
// on is told ahead of it.
func TestParseOfLongNumbers(t *testing.T) {
	for _, s := range []string{
		times("0", 400), times("0", 399) + "7", "1." + times("0", 398), times("0", 200) + "1.5" + times("0", 197), "0." + times("0", 59) + "1" + times("0", 338),
		times("0", 398) + ".5", times("0", 300) + times("9", 40) + "." + times("1", 59),
	} {
		if len(s) != 400 {
			t.Fatal("the test's number has", len(s), "bytes")
		}
		expectParsed(t, s, number(s))
		expectParsed(t, s+"-"+s, sub(number(s), number(s)))
		expectParsed(t, s+times(" ", 50), number(s))
		for _, long := range []string{"0" + s, times("0", 1000) + s, s[:strings.IndexByte(s+".", '.')] + "." + times("0", 400)} {
			expectRefused(t, long, 0, api.ErrLong)
			expectRefused(t, " -(a + "+long+" )", 0, api.ErrLong)
			expectRefused(t, long+" *", len(long)+2, api.ErrForm)
			expectRefused(t, long+" 1", len(long)+1, api.ErrForm)
			expectRefused(t, long+")", len(long), api.ErrForm)
			expectRefused(t, long+"-"+times("(", 32), len(long)+32, api.ErrDeep)
			expectRefused(t, long+"-"+long+".", 2*len(long)+1+btoi(!strings.Contains(long, ".")), api.ErrForm)
		}
		expectRefused(t, "a+"+s+".", 402+btoi(!strings.Contains(s, ".")), api.ErrForm)
	}
	expectRefused(t, times("1", 400)+".", 401, api.ErrForm)
	expectRefused(t, times("1", 500)+". 0", 501, api.ErrForm)
}

func btoi(b bool) int {
	if b {
		return 1
	}
	return 0
}

// P5.1: numbers that may not be: Large ones, and those that no 60 digits tell.
func TestParseOfNumbersThatMayNotBe(t *testing.T) {
	greatest := lone()[7].num.Num().String()
	next := greatest[:len(greatest)-1] + "6"
	if greatest[len(greatest)-1] != '5' {
		t.Fatal("the greatest number ends otherwise:", greatest)
	}
	for _, s := range []string{greatest, "000" + greatest, greatest + ".000", times("9", 154), "0." + times("0", 59) + "1", "0." + times("0", 59) + "1000", times("9", 94) + "." + times("9", 60), "7." + times("3", 60)} {
		expectParsed(t, s, number(s))
		checkParse(t, "a*"+s)
	}
	for _, s := range []string{next, "0" + next, next + ".0", "1" + times("0", 155), times("9", 400), "0." + times("0", 60) + "1", "7." + times("3", 61), "0." + times("0", 397) + "1", times("9", 154) + ".5", times("9", 95) + "." + times("9", 60)} {
		expectRefused(t, s, 0, api.ErrLong)
		expectRefused(t, "a - (2 * "+s+")", 0, api.ErrLong)
		expectRefused(t, s+"+", len(s)+1, api.ErrForm)
		expectRefused(t, s+" .", len(s)+1, api.ErrForm)
	}
}

// P5.1: brackets and signs ahead within one another, 31 of which may be.
func TestParseOfBracketsWithinOneAnother(t *testing.T) {
	a := named("a")
	signs := func(n int) tree { return chains(n, a)[0] }
	expectParsed(t, times("(", 31)+"a"+times(")", 31), a)
	expectParsed(t, times("-", 31)+"a", signs(31))
	expectParsed(t, times("-(", 15)+"-a"+times(")", 15), signs(16))
	expectParsed(t, times("(-", 15)+"(a)"+times(")", 15), signs(15))
	expectParsed(t, times("(", 16)+times("-", 15)+"a"+times(")", 16), signs(15))
	expectParsed(t, times("-", 30)+"(a)", signs(30))
	expectParsed(t, times(" - ", 31)+"a", signs(31))

	expectRefused(t, times("(", 32)+"a"+times(")", 32), 31, api.ErrDeep)
	expectRefused(t, times("-", 32)+"a", 31, api.ErrDeep)
	expectRefused(t, times("-", 31)+"(a)", 31, api.ErrDeep)
	expectRefused(t, times("(", 31)+"-a"+times(")", 31), 31, api.ErrDeep)
	expectRefused(t, times("-(", 16)+"a"+times(")", 16), 31, api.ErrDeep)
	expectRefused(t, times("(-", 16)+"a"+times(")", 16), 31, api.ErrDeep)
	expectRefused(t, times(" (", 32)+"a", 63, api.ErrDeep)
	expectRefused(t, times("(", 1000), 31, api.ErrDeep)
	expectRefused(t, times("-", 1000), 31, api.ErrDeep)
	expectRefused(t, times("(a-", 31)+"b-(", 31*3+2, api.ErrDeep)
	expectRefused(t, times("(a-", 31)+"-b", 31*3, api.ErrDeep)
	expectRefused(t, times("(", 31)+"a*-", 33, api.ErrDeep)
	expectRefused(t, "A"+times("(", 40), 0, api.ErrForm)
	expectRefused(t, times("(", 31), 31, api.ErrForm)
	expectRefused(t, times("-", 31), 31, api.ErrForm)
	expectRefused(t, times("(", 31)+")", 31, api.ErrForm)
	expectRefused(t, times("(", 31)+"+", 31, api.ErrForm)
	expectRefused(t, times("(", 31)+"a"+times(")", 32), 63, api.ErrForm)
	// A bracket can't stand behind a factor, and a sign behind one is between
	// two, however many brackets they stand within.
	expectRefused(t, times("(", 31)+"a(", 32, api.ErrForm)
	expectParsed(t, times("(", 31)+"a-a"+times(")", 31), sub(a, a))
}

// P5.1: what a bracket or a sign ahead is no longer within does not count.
func TestParseOfBracketsBesideOneAnother(t *testing.T) {
	a := named("a")
	deep := times("(", 31) + "a" + times(")", 31)
	expectParsed(t, deep+"-"+deep+"*"+deep, sub(a, mul(a, a)))
	signs := times("-", 30)
	x := chains(30, a)[0]
	expectParsed(t, signs+"a/"+signs+"a", div(x, x))
	expectParsed(t, "-("+deep[2:61]+")+-"+deep[1:62], add(neg(a), neg(a)))
	mixed := times("(-", 15) + "(a)" + times(")", 15)
	y := chains(15, a)[0]
	expectParsed(t, mixed+"+"+mixed+"-"+deep, sub(add(y, y), a))
	expectRefused(t, deep+"-("+deep+")", 64+31, api.ErrDeep)
	expectRefused(t, deep+"--"+deep, 64+31, api.ErrDeep)
	expectRefused(t, deep+"+"+mixed+"*-"+times("-", 31), 64+len(mixed)+32, api.ErrDeep)
	expectParsed(t, times("(a)+", 25)+"-a", chainOf(25, a))
	checkParse(t, times("-a*", 25)+"-a")
	checkParse(t, times("-(a)-", 29)+"(-a)")
}

func chainOf(n int, a tree) tree {
	x := a
	for range n - 1 {
		x = add(x, a)
	}
	return add(x, neg(a))
}

// P5.1: as deep as may be, and one more, told by the order of what binds.
func TestParseOfTheDeepest(t *testing.T) {
	for _, leaf := range []tree{named("a"), number("0.5")} {
		for _, x := range chains(31, leaf) {
			s, _ := x.text()
			expectParsed(t, s, x)
		}
		for i, x := range chains(32, leaf) {
			if s, _ := x.text(); i != 0 {
				checkParse(t, s)
			}
		}
	}
	expectRefused(t, "a"+times("+a", 32), 0, api.ErrLong)
	expectRefused(t, "a"+times("*a", 32), 0, api.ErrLong)
	expectRefused(t, times("-", 31)+"a-a", 0, api.ErrLong)
	expectRefused(t, "a*"+times("-", 31)+"a", 0, api.ErrLong)
	expectRefused(t, "(a"+times("/a", 31)+")-b", 0, api.ErrLong)
	expectRefused(t, "a"+times("+a", 32)+")", 66-1, api.ErrForm)
	expectRefused(t, "a"+times("+a", 1000)+"*", 2002, api.ErrForm)
	expectRefused(t, "a"+times("+a", 1000)+"*"+times("(", 32), 2002+31, api.ErrDeep)
}

// P5.1
func TestParseOfAsManyNodes(t *testing.T) {
	for nodes := 250; nodes <= 256; nodes++ {
		s, _ := full(nodes).text()
		expectParsed(t, s, full(nodes))
	}
	for _, nodes := range []int{257, 258, 300, 511, 512, 513, 5000} {
		s, _ := full(nodes).text()
		expectRefused(t, s, 0, api.ErrLong)
		expectRefused(t, s+" +", len(s)+2, api.ErrForm)
		expectRefused(t, s+"b", len(s), api.ErrForm)
		expectRefused(t, s+")", len(s), api.ErrForm)
	}
	// A leaf more, and a sign more, in each place.
	s, _ := full(256).text()
	for i, b := range s {
		if b == 'a' {
			expectRefused(t, s[:i]+"-"+s[i:], 0, api.ErrLong)
			expectRefused(t, s[:i]+"("+s[i:i+1]+"-1)"+s[i+1:], 0, api.ErrLong)
		}
	}
}

// W1: texts of any length.
func TestParseOfLongTexts(t *testing.T) {
	const n = 1 << 20
	expectRefused(t, "a"+times("+a", n), 0, api.ErrLong)
	expectRefused(t, "a"+times("*-1", n), 0, api.ErrLong)
	expectRefused(t, "a"+times("+(a)", n)+"(", 1+4*n, api.ErrForm)
	expectRefused(t, times("(", n), 31, api.ErrDeep)
	expectRefused(t, times("-", n), 31, api.ErrDeep)
	expectRefused(t, times(")", n), 0, api.ErrForm)
	expectRefused(t, times("a", n), 24, api.ErrForm)
	expectRefused(t, times("1", n), 0, api.ErrLong)
	expectRefused(t, "1."+times("1", n), 0, api.ErrLong)
	expectRefused(t, times("1.", n), 3, api.ErrForm)
	expectRefused(t, times(" ", n), n, api.ErrForm)
	expectRefused(t, times("\xff", n), 0, api.ErrForm)
	expectRefused(t, times(" ", n)+"a b", n+2, api.ErrForm)
	expectParsed(t, times(" ", n)+"a"+times(" ", n), named("a"))
}

// P5.1: all short texts of words, and of bytes.
func TestParseOfAllShortTexts(t *testing.T) {
	try := func(words []string, most int) {
		var from func(s string, more int)
		from = func(s string, more int) {
			checkParse(t, s)
			for _, word := range words {
				if more > 0 {
					from(s+word, more-1)
				}
			}
		}
		from("", most)
	}
	try([]string{"a", "1", "+", "-", "*", "(", ")"}, 6)
	try([]string{"a", "-", "/", "(", ")"}, 7)
	try([]string{"a", "1", ".", " ", "-", "_", "A", "\xff"}, 5)
	try([]string{"b2", "0.5", "*(", ")-", "/", " ", "$"}, 5)
}

// P5.1: each byte at each place.
func TestParseOfAllBytes(t *testing.T) {
	for b := range 256 {
		for _, s := range []string{"a", "12.5", "a_b-1", "-(a*2)/b", " 1 - -a "} {
			for i := range len(s) + 1 {
				checkParse(t, s[:i]+string([]byte{byte(b)})+s[i:])
				if i < len(s) {
					checkParse(t, s[:i]+string([]byte{byte(b)})+s[i+1:])
				}
			}
		}
	}
}

// P5.1: long texts, as they are, with blanks, and spoilt in some place.
func TestParseOnManyTexts(t *testing.T) {
	r := rand.New(rand.NewSource(5))
	for range 1500 {
		x := grown(r, 1+r.Intn(1+r.Intn(280)))
		s, _ := x.text()
		checkParse(t, s)
		checkParse(t, strings.ReplaceAll(s, " ", ""))
		checkParse(t, spread(r, s))
		i := r.Intn(len(s) + 1)
		checkParse(t, s[:i]+string("()+-*/.a0 _B"[r.Intn(12)])+s[i:])
		checkParse(t, s[:i]+s[min(len(s), i+1):])
		checkParse(t, s[:i])
		checkParse(t, s[i:])
	}
	for range 20000 {
		var b strings.Builder
		for range r.Intn(120) {
			b.WriteString([]string{"(", "-", "a", "1", "a", "b)", ")", "+", "*", " ", "/", "(-", "c-", "2.5*"}[r.Intn(14)])
		}
		checkParse(t, b.String())
	}
}

// spread puts blanks between words.
func spread(r *rand.Rand, s string) string {
	var b strings.Builder
	for i, c := range []byte(s) {
		isOfWord := i > 0 && !strings.ContainsRune("()+-*/ ", rune(c)) && !strings.ContainsRune("()+-*/ ", rune(s[i-1]))
		if !isOfWord {
			b.WriteString(times(" ", r.Intn(3)))
		}
		b.WriteByte(c)
	}
	return b.String() + times(" ", r.Intn(3))
}

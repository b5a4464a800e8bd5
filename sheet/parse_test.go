package sheet_test

import (
	"math/big"
	"math/rand"
	"slices"
	"strings"
	"testing"

	"pantograph/api"
)

// P6.2
func TestParseByHand(t *testing.T) {
	a, b := named("a"), named("b")
	g := []api.Page{{Name: "g"}}
	for _, x := range []struct {
		s    string
		want api.Form
	}{
		{"", api.Form{}},
		{wholeText, whole()},
		{strings.TrimSuffix(wholeText, "\n"), whole()},
		{"switch s on\n", api.Form{Switches: []api.Switch{{Name: "s", On: true}}}},
		{"switch s off", api.Form{Switches: []api.Switch{{Name: "s"}}}},
		{"switch on off\nswitch off on", api.Form{Switches: []api.Switch{{Name: "on"}, {Name: "off", On: true}}}},
		{"switch s on\nswitch s on", api.Form{Switches: []api.Switch{{Name: "s", On: true}, {Name: "s", On: true}}}},
		{"param p 1", api.Form{Params: []api.Param{{Name: "p", Val: small(1, 1)}}}},
		{"param p -0.50\n", api.Form{Params: []api.Param{{Name: "p", Val: small(-1, 2)}}}},
		{"param p 10/4\nparam p -007", api.Form{Params: []api.Param{{Name: "p", Val: small(5, 2)}, {Name: "p", Val: small(-7, 1)}}}},
		{"param p -0\nparam q 0/7\nparam r 0.000", api.Form{Params: []api.Param{{Name: "p", Val: small(0, 1)}, {Name: "q", Val: small(0, 1)}, {Name: "r", Val: small(0, 1)}}}},
		{"page g", api.Form{Pages: g}},
		{"page g when s\npage when\npage when when when", api.Form{Pages: []api.Page{{Name: "g", When: "s"}, {Name: "when"}, {Name: "when", When: "when"}}}},
		{"page g\nfield a", api.Form{Pages: g, Fields: []api.Field{{Name: "a"}}}},
		{"page g\nfield a must\nfield must\nfield must must", api.Form{Pages: g, Fields: []api.Field{{Name: "a", Must: true}, {Name: "must"}, {Name: "must", Must: true}}}},
		{"page g\nfield a scale 3\nfield scale\nfield scale scale 1", api.Form{Pages: g, Fields: []api.Field{{Name: "a", Scale: 3}, {Name: "scale"}, {Name: "scale", Scale: 1}}}},
		{"page g\nfield a must scale 9", api.Form{Pages: g, Fields: []api.Field{{Name: "a", Must: true, Scale: 9}}}},
		{"page g\ncheck c : a = b", api.Form{Pages: g, Checks: []api.Check{{Name: "c", L: a, R: b}}}},
		{"page g\ncheck c:a<b\ncheck c :a<b\ncheck c: a < b", api.Form{Pages: g, Checks: slices.Repeat([]api.Check{{Name: "c", Cmp: api.CmpLess, L: a, R: b}}, 3)}},
		{"page g\ncheck c:a<=b\ncheck check : a <=b\ncheck c  :  a<=  b  ", api.Form{Pages: g, Checks: []api.Check{{Name: "c", Cmp: api.CmpMost, L: a, R: b}, {Name: "check", Cmp: api.CmpMost, L: a, R: b}, {Name: "c", Cmp: api.CmpMost, L: a, R: b}}}},
		{"rule required r : a = b", api.Form{Rules: []api.Rule{{Name: "r", L: a, R: b}}}},
		{"rule strong r:a=b", api.Form{Rules: []api.Rule{{Name: "r", Strength: api.Strong, L: a, R: b}}}},
		{"rule medium r when s:a=b\nrule medium when : a = b", api.Form{Rules: []api.Rule{{Name: "r", Strength: api.Medium, When: "s", L: a, R: b}, {Name: "when", Strength: api.Medium, L: a, R: b}}}},
		{"rule weak weak when when : -(a-b) * 2=  0.50 ", api.Form{Rules: []api.Rule{{Name: "weak", Strength: api.Weak, When: "when", L: mul(neg(sub(a, b)), number("2")), R: number("1/2")}}}},
		{"page p\nfield  a must\nrule weak r:a=2", api.Form{Pages: []api.Page{{Name: "p"}}, Fields: []api.Field{{Name: "a", Must: true}}, Rules: []api.Rule{{Name: "r", Strength: api.Weak, L: a, R: number("2")}}}},
	} {
		expectParsed(t, x.s, x.want)
		checkParse(t, x.s)
	}
}

// goodLines are lines of all kinds that may stand behind a page.
func goodLines() []string {
	return []string{
		"switch s on", "switch t off", "param p 1", "param q -1/2", "page g", "page h when s",
		"field a", "field b must", "field c scale 2", "field d must scale 9", "check u : a = b", "check v : a < b", "check w : a <= b",
		"rule required k : a = b", "rule strong l : a = 2", "rule medium m when s : a = -b", "rule weak n when t : a * b = 0",
	}
}

// badLines are lines that are none, each with its error.
func badLines() map[string]api.Errno {
	list := map[string]api.Errno{}
	for _, s := range []string{
		// Of no kind.
		"a", "Switch a on", "switches a on", "switc a on", "swit", "PAGE p", "pages", "p", "params p 1", "fields a", "checks c : a = b", "rules weak r : a = b", "rul weak r : a = b", "when s", "must", "a = b", ":", ": a = b", "=", "0", "-", "a#", "//", ";", "\\", "\"page\" p",
		"check:a=b", "check:", "rule:", "rule:weak r:a=b", "page:", "page:p", "field:a", "switch:s on", "param:p 1", "page=p", "rule=",
		// Bytes that are of no word.
		"\tpage p", "page\tp", "page p\t", "\t", "\r", "page p\r", "switch s on\r", "switch s\ton", "page \xff", "\xff", "\xffpage p", "page p \xff", "page \x00", "\x00", "page p\x00", "\x00page p", "page\u00a0p", "\ufeffpage p", "page p\v", "\fpage p", "page \u00e9", "page p\u0301", "\u00a0", "\u2003", "\x85",
		"check c\t: a = b", "check c : a\t= b", "check c : a = b\t", "check c : a = b\r", "rule weak r : a =\tb", "rule weak r : \u00e9 = b", "rule weak r : a = b\xff", "rule weak r : a = \x00", "rule\tweak r : a = b", "rule weak\u00a0r : a = b",
		// Words that are missing.
		"switch", "switch s", "switch on", "param", "param p", "param 1", "page", "page g when", "page when s", "field", "field a scale", "field a must scale",
		"check", "check c", "check :", "check : a = b", "check c :", "check c : a", "check c : =", "check c : a =", "check c : = b", "check c : <", "check c : a <=", "check c a = b", "check c = b", "check c : a b",
		"rule", "rule weak", "rule weak r", "rule weak r :", "rule r : a = b", "rule weak : a = b", "rule : a = b", "rule weak r : a", "rule weak r : =", "rule weak r : a =", "rule weak r : = b", "rule weak r a = b", "rule weak r when : a = b", "rule weak when s : a = b", "rule when s : a = b", "rule weak r when s", "rule weak r when s a = b", "rule weak r : a b",
		// Words that are too many.
		"switch s on on", "switch s on off", "switch s on t", "switch s t on", "switch s on #", "param p 1 2", "param p 1 / 2", "param p - 1", "param p 1 .5", "param p q 1", "param p 1 when s", "param p 1 #", "page g h", "page g when s t", "page g when s when t", "page g s when", "page g #", "page g must", "page g when when s",
		"field a b", "field a must must", "field a scale 1 must", "field a scale 1 scale 1", "field a must scale 1 2", "field a must 1", "field a must when s", "field a when s", "field a scale 1 #", "field a #",
		"check c d : a = b", "check c when s : a = b", "check c c : a = b", "check weak c : a = b", "check required c : a = b", "check c : d : a = b", "check c :: a = b", "check c : a = b : d", "check c : a : = b",
		"rule weak r s : a = b", "rule weak weak r : a = b", "rule weak r when s t : a = b", "rule weak r when s when t : a = b", "rule weak strong r : a = b", "rule weak r s when : a = b", "rule weak r : s : a = b", "rule weak r :: a = b", "rule weak r must : a = b",
		// Words that are none of their kind.
		"switch s On", "switch s ON", "switch s 1", "switch s true", "switch s onn", "switch s o", "switch s offf", "switch s of", "switch s =", "switch on s", "switch s :", "switch s on:",
		"page g when: s", "page g when :", "page g wheN s", "page g if s", "field a Must", "field a mus", "field a musts", "field a scal 1", "field a scales 1", "field a Scale 1", "field a must=1", "field a 1",
		"field a scale 10", "field a scale 11", "field a scale 99", "field a scale 00", "field a scale 01", "field a scale 09", "field a scale 100000000000000000000", "field a scale -1", "field a scale -0", "field a scale +1", "field a scale 1.", "field a scale 1.0", "field a scale 1/1", "field a scale a", "field a scale must", "field a scale :", "field a scale /", "field a scale \xff", "field a scale \u0661", "field a must scale 10", "field a scale1", "field a scale=1",
		"rule Weak r : a = b", "rule weaK r : a = b", "rule wea r : a = b", "rule weakk r : a = b", "rule stay r : a = b", "rule 3 r : a = b", "rule 0 r : a = b", "rule r weak : a = b", "rule require r : a = b", "rule none r : a = b", "rule weak, r : a = b", "rule weak r If s : a = b", "rule # r : a = b",
		// A rule's compare.
		"rule weak r : a < b", "rule weak r : a <= b", "rule weak r : a<b", "rule weak r : a<=b", "rule required r when s : a <= b", "rule weak r : a < = b",
		// What is no expression.
		"check c : a == b", "check c : a =< b", "check c : a < = b", "check c : a << b", "check c : a <= = b", "check c : a <== b", "check c : a <=< b", "check c : a < b < d", "check c : a = b = d", "check c : a < b = d", "check c : a > b", "check c : a >= b", "check c : a != b", "check c : a => b", "check c : a <> b",
		"check c : A = b", "check c : a = B", "check c : (a = b", "check c : a = (b", "check c : a) = b", "check c : (a = b)", "check c : a + = b", "check c : a = + b", "check c : 1. = b", "check c : .5 = b", "check c : a = 1e5", "check c : a # = b", "check c : a = b #", "check c : a = b # c",
		"rule weak r : a == b", "rule weak r : a =< b", "rule weak r : a = b = c", "rule weak r : a = b < c", "rule weak r : A = b", "rule weak r : a = B", "rule weak r : a + = b", "rule weak r : a b = c", "rule weak r : a = b c", "rule weak r : a = b,", "rule weak r : (a = b)", "rule weak r : a = b when s",
		"check c : " + times("a", 25) + " = b", "rule weak r : a = " + times("a", 25),
		// Of two errors of a line words stand ahead of expressions.
		"check C : " + times("(", 32) + " = b", "check c d : a = " + times("a+", 40) + "a", "check : " + times("(", 32) + "a = b", "check c d : a = " + times("-", 32) + "a", "rule weak R : " + times("(", 32) + " = b", "rule wea r : " + times("-", 32) + "a = b", "rule weak r when : " + times("-", 32) + "a = b", "rule weak r when s t : a = " + times("9", 401), "rule r : a = " + times("9", 401),
		// L stands ahead of R.
		"check c : a + = " + times("(", 32), "check c : A = " + times("9", 401), "rule weak r : ) = " + times("-", 32) + "a", "rule weak r : = a" + times("+a", 32), "rule weak r : < " + times("(", 32),
	} {
		list[s] = api.ErrForm
	}
	for _, name := range append(badNames(), "a,", "a'", "a.b", "a/b", "(a)", "<", "<=", "a=", "\u0430", "1/2", "0") {
		if strings.Trim(name, " ") != name || strings.ContainsAny(name, " \n") {
			continue
		}
		for _, s := range []string{"switch # on", "param # 1", "page #", "page # when s", "page g when #", "field #", "field # must", "field # must scale 1", "check # : a = b", "rule weak # : a = b", "rule weak # when s : a = b", "rule weak r when # : a = b"} {
			if line := strings.Replace(s, "#", name, 1); len(line) < 10000 {
				list[line] = api.ErrForm
			}
		}
	}
	for _, number := range []string{"a", "-", "--1", "+1", "1.", ".5", "-.5", "1..5", "1.5.5", "1/", "/2", "1/0", "1/000", "1/2/3", "1/-2", "1.5/2", "1/2.5", "1e5", "0x1", "1,5", "1_0", "(1)", "\u0661", "\xff", "1\x00", "1:", "1=", times("1", 401), "-" + times("0", 400), "1." + times("0", 399), "A"} {
		list["param p "+number] = api.ErrForm
	}
	// It is the first `:` that ends the words: others are of L or of R.
	for _, s := range []string{"check c : # : = b", "check c : a = # : b", "check c:# when:d:a=b", "rule weak r : # : a = b", "rule weak r : a = # : b", "rule weak r :# when s : a = b"} {
		list[strings.Replace(s, "#", times("(", 32), 1)] = api.ErrDeep
		list[strings.Replace(s, "#", times("-", 32)+"a", 1)] = api.ErrDeep
	}
	for text, err := range badSides() {
		// Whatever the right is: L stands ahead of R, and of a rule's compare.
		for _, right := range []string{"b", "", "B", times("(", 32), times("9", 401)} {
			for _, compare := range []string{"=", "<", "<="} {
				list["check c : "+text+compare+right] = err
				list["rule weak r : "+text+compare+right] = err
			}
		}
		for _, compare := range []string{"=", "<", "<="} {
			list["check c : a"+compare+" "+text] = err
			list["rule strong r when s:a "+compare+text] = err
		}
	}
	return list
}

// badSides are texts that are no expressions, by other errors than ErrForm.
func badSides() map[string]api.Errno {
	return map[string]api.Errno{
		times("(", 32): api.ErrDeep, times("-", 32) + "a": api.ErrDeep, times("(-", 16) + ")": api.ErrDeep, "a + " + times("(", 32) + "a" + times(")", 32): api.ErrDeep,
		"a" + times("+a", 32): api.ErrLong, times("9", 401): api.ErrLong, times("9", 155): api.ErrLong, "0." + times("0", 60) + "1": api.ErrLong, strings.TrimSuffix(times("(a+b)*", 16), "*") + times("+(a-b*c)", 35): api.ErrLong,
	}
}

// P6.2: the first line that is none is told, whatever stands ahead of it and
// behind it.
func TestParseOfBadLines(t *testing.T) {
	aheads := []struct {
		text string
		line int
	}{
		{"page g\n", 2}, {"\n\npage g\n   \n", 5}, {"# page A\n #:\npage g\n#", 5}, {wholeText, strings.Count(wholeText, "\n") + 1}, {strings.ReplaceAll(wholeText, "\n", " \n\n "), 2*strings.Count(wholeText, "\n") + 1},
	}
	aheads[2].text += "\n"
	for line, err := range badLines() {
		for _, x := range aheads {
			expectRefused(t, x.text+line, x.line, err)
			expectRefused(t, x.text+" "+line+" \n", x.line, err)
			expectRefused(t, x.text+line+"\nswitch\n", x.line, err)
			expectRefused(t, x.text+line+"\nrule weak r : "+times("(", 32)+" = a", x.line, err)
			expectRefused(t, x.text+"page "+times("p", 25)+"\n"+line, x.line, api.ErrForm)
			expectRefused(t, x.text+"rule weak r : "+times("-", 32)+"a = b\n"+line, x.line, api.ErrDeep)
			expectRefused(t, x.text+"\ncheck c : a <= a"+times("*a", 32)+"\n\n"+line, x.line+1, api.ErrLong)
			expectRefused(t, x.text+"param big "+times("9", 155)+"\n"+line, x.line+1, err)
		}
		checkParse(t, line)
		checkParse(t, "page g\n"+line)
	}
}

// P6.2: a field or a check is of the last page ahead, if there is one.
func TestParseOfPages(t *testing.T) {
	a, b := named("a"), named("b")
	for _, line := range []string{"field a", "field a must", "field a scale 1", "check c : a = b", "check c:a<=b"} {
		expectRefused(t, line, 1, api.ErrForm)
		expectRefused(t, line+"\npage g", 1, api.ErrForm)
		expectRefused(t, "switch s on\nparam p 1\n#page g\n\n"+line, 5, api.ErrForm)
		expectRefused(t, "rule weak r : a = b\n"+line+"\npage g\n", 2, api.ErrForm)
		checkParse(t, "page g\n"+line)
	}
	// That there is no page is told ahead of errors of expressions.
	expectRefused(t, "check c : "+times("(", 32)+" = b", 1, api.ErrForm)
	expectRefused(t, "check c : a = "+times("9", 401), 1, api.ErrForm)
	expectRefused(t, "page g\ncheck c : "+times("(", 32)+" = b", 2, api.ErrDeep)
	expectRefused(t, "page g\ncheck c : a = "+times("9", 401), 2, api.ErrLong)

	expectParsed(t, "page g\npage h\nfield a\ncheck c:a=b\npage i\nswitch s on\nfield b\npage j\npage k\ncheck d:b=a\nrule weak r:a=b\nfield c\nfield d", api.Form{
		Switches: []api.Switch{{Name: "s", On: true}},
		Pages:    []api.Page{{Name: "g"}, {Name: "h"}, {Name: "i"}, {Name: "j"}, {Name: "k"}},
		Fields:   []api.Field{{Name: "a", Page: 1}, {Name: "b", Page: 2}, {Name: "c", Page: 4}, {Name: "d", Page: 4}},
		Checks:   []api.Check{{Name: "c", Page: 1, L: a, R: b}, {Name: "d", Page: 4, L: b, R: a}},
		Rules:    []api.Rule{{Name: "r", Strength: api.Weak, L: a, R: b}},
	})
	// Two pages of one name are two.
	expectParsed(t, "page g\nfield a\npage g\nfield a", api.Form{Pages: []api.Page{{Name: "g"}, {Name: "g"}}, Fields: []api.Field{{Name: "a"}, {Name: "a", Page: 1}}})
}

// P6.2: all scales.
func TestParseOfScales(t *testing.T) {
	for scale := range api.MaxScale + 1 {
		digit := string(rune('0' + scale))
		for _, must := range []string{"", " must"} {
			want := api.Form{Pages: []api.Page{{Name: "g"}}, Fields: []api.Field{{Name: "a", Must: must != "", Scale: scale}}}
			expectParsed(t, "page g\nfield a"+must+" scale "+digit, want)
			expectRefused(t, "page g\nfield a"+must+" scale 0"+digit, 2, api.ErrForm)
			expectRefused(t, "page g\nfield a"+must+" scale 1"+digit, 2, api.ErrForm)
			expectRefused(t, "page g\nfield a"+must+" scale "+digit+"0", 2, api.ErrForm)
			expectRefused(t, "page g\nfield a"+must+" scale "+digit+" "+digit, 2, api.ErrForm)
			expectRefused(t, "page g\nfield a"+must+" scale -"+digit, 2, api.ErrForm)
		}
	}
}

// P6.2: names as long as may be, and a byte more.
func TestParseOfNames(t *testing.T) {
	for n := 1; n < 30; n++ {
		for _, s := range []string{"switch # on", "param # 1", "page #", "page # when s", "page g when #", "field #", "field # must", "check # : a = b", "check #:a=b", "rule weak # : a = b", "rule weak #:a=b", "rule weak r when # : a = b", "rule weak r when #:a=b", "rule weak r : # = 1", "check c : 1<#"} {
			for _, name := range []string{times("n", n), "n" + times("9", n-1), "n" + times("_", n-1)} {
				line := strings.Replace(s, "#", name, 1)
				if n > api.MaxName {
					expectRefused(t, "page g\n"+line, 2, api.ErrForm)
				}
				checkParse(t, "page g\n"+line)
			}
		}
	}
}

// P6.2: all kinds of lines, in all orders of three, and in many of all.
func TestParseOfAllOrders(t *testing.T) {
	lines := goodLines()
	for _, x := range lines {
		checkParse(t, x)
		for _, y := range lines {
			checkParse(t, x+"\n"+y)
			for _, z := range lines {
				checkParse(t, "page o\n"+x+"\n"+y+"\n"+z)
			}
		}
	}
	r := rand.New(rand.NewSource(64))
	for range 3000 {
		r.Shuffle(len(lines), func(i, j int) { lines[i], lines[j] = lines[j], lines[i] })
		checkParse(t, strings.Join(lines, "\n"))
		checkParse(t, "page o\n"+strings.Join(lines, "\n")+"\n")
	}
}

// P6.2: words are parted by one blank or more, at both ends too.
func TestParseOfBlanks(t *testing.T) {
	r := rand.New(rand.NewSource(65))
	for _, line := range goodLines() {
		f, _, _ := read("page o\n" + line)
		for n := range 40 {
			blanks := times(" ", n)
			expectParsed(t, "page o\n"+blanks+line, f)
			expectParsed(t, "page o\n"+line+blanks, f)
			expectParsed(t, "page o\n"+line+blanks+"\n"+blanks, f)
			expectParsed(t, blanks+"page"+blanks+" o"+blanks+"\n"+blanks+strings.ReplaceAll(line, " ", " "+blanks)+blanks, f)
			var b strings.Builder
			for _, word := range strings.Split(line, " ") {
				b.WriteString(word + times(" ", 1+r.Intn(4)))
			}
			expectParsed(t, "page o\n"+b.String(), f)
		}
		// Without any one of its blanks, and with one more anywhere.
		for i := range len(line) + 1 {
			checkParse(t, "page o\n"+line[:i]+" "+line[i:])
			if i < len(line) && line[i] == ' ' {
				checkParse(t, "page o\n"+line[:i]+line[i+1:])
			}
		}
		ahead, behind, isFound := strings.Cut(line, ":")
		if isFound {
			expectParsed(t, "page o\n"+strings.TrimRight(ahead, " ")+":"+strings.ReplaceAll(behind, " ", ""), f)
			expectParsed(t, "page o\n"+ahead+"   :   "+behind, f)
			expectParsed(t, "page o\n"+strings.TrimRight(ahead, " ")+": "+behind, f)
			expectParsed(t, "page o\n"+ahead+":"+strings.TrimLeft(behind, " "), f)
		}
	}
}

// P6.2: lines that do not count are counted nevertheless.
func TestParseOfLinesThatDoNotCount(t *testing.T) {
	nothing := []string{"", " ", times(" ", 300), "#", " #", "##", "# ", "#page A", "# page A", "#\t", "#\xff\x00", "# check c : a = b", "   # :", "#:=<", "#switch", "# " + times("(", 40), "#" + times("x", 300)}
	for _, s := range nothing {
		for _, other := range nothing {
			expectParsed(t, s, api.Form{})
			expectParsed(t, s+"\n"+other, api.Form{})
			expectParsed(t, s+"\n"+other+"\n", api.Form{})
			expectParsed(t, s+"\n"+wholeText+other, whole())
			expectParsed(t, strings.ReplaceAll(wholeText, "\n", "\n"+s+"\n"), whole())
			expectRefused(t, s+"\n"+other+"\npage\n"+s, 3, api.ErrForm)
			expectRefused(t, s+"\npage g\n"+other+"\n\n"+s+"\nfield a b", 6, api.ErrForm)
		}
	}
	expectRefused(t, times("\n", 1000)+"x", 1001, api.ErrForm)
	expectRefused(t, times("#\n", 1000)+" x\n\n", 1001, api.ErrForm)
	expectParsed(t, times("\n", api.MaxText), api.Form{})
	// Only a first word may begin with #.
	expectRefused(t, "page # g", 1, api.ErrForm)
	expectRefused(t, "page g # a page", 1, api.ErrForm)
	expectRefused(t, "page #g", 1, api.ErrForm)
	// Other bytes end no line and part no words.
	expectRefused(t, "page g\rpage h", 1, api.ErrForm)
	expectRefused(t, "page g\r\npage h", 1, api.ErrForm)
	expectRefused(t, "page g\x00page h", 1, api.ErrForm)
	expectRefused(t, "page g\u2028page h", 1, api.ErrForm)
	expectRefused(t, "\r\n", 1, api.ErrForm)
	expectRefused(t, "\n\t\n", 2, api.ErrForm)
}

// P6.2: as long as may be, and a byte more, whatever it says.
func TestParseOfTheLongest(t *testing.T) {
	for _, s := range []string{"", wholeText, "page g\nfield a"} {
		want, _, _ := read(s)
		for _, pad := range []string{"\n" + times(" ", api.MaxText), "\n#" + times("x", api.MaxText), times("\n", api.MaxText), times("\n   \n", api.MaxText/5+1)} {
			text := (s + pad)[:api.MaxText]
			expectParsed(t, text, want)
			expectParsed(t, text[:api.MaxText-1], want)
			for _, more := range []string{" ", "\n", "x", "#", "\n#", "\xff", times(" ", 1000), times("\n", 1<<20)} {
				expectRefused(t, text+more, 0, api.ErrLong)
				expectRefused(t, more+text, 0, api.ErrLong)
			}
			expectRefused(t, "x\n"+text, 0, api.ErrLong)
			expectRefused(t, "x\n"+text[:api.MaxText-2], 1, api.ErrForm)
			expectRefused(t, "x\n"+text[:api.MaxText-1], 0, api.ErrLong)
			expectRefused(t, text[:api.MaxText-2]+"\nx", strings.Count(text[:api.MaxText-2], "\n")+2, api.ErrForm)
		}
	}
	for _, s := range []string{"x", "page g\n", " ", "\n", "#", "\xff", "\x00", "rule weak r : a = a", "9"} {
		expectRefused(t, times(s, 1<<20), 0, api.ErrLong)
	}
}

// P6.2: what comes out may be longer than what was read, and may not be then.
func TestParseOfWhatComesOutTooLong(t *testing.T) {
	for _, line := range []string{"rule weak r:a=b\n", "page p\ncheck c:1<a*b\n", "rule weak r when s:a=b+c-2/5\n", "param p 0.00001\n", "param p 0." + times("0", 60) + "1\n", "rule required r:a=.5\n"} {
		line = strings.Replace(line, "=.5", "=(a)*(b)", 1)
		f, _, err := read(line)
		if err != api.OK {
			t.Fatal("the test's line is none:", line)
		}
		each := len(formText(f))
		for _, size := range []int{api.MaxText - 1, api.MaxText, api.MaxText + 1, api.MaxText + 7} {
			count := (size - 40) / each
			rest := formText(padded(api.Form{}, size-count*each))
			text := times(line, count) + rest
			if len(text) > api.MaxText {
				t.Fatal("the test's text is too long:", len(text))
			}
			if size <= api.MaxText {
				f, _, _ := read(text)
				expectParsed(t, text, f)
				if len(formText(f)) != size {
					t.Fatal("the test's text comes out as long as", len(formText(f)))
				}
				continue
			}
			expectRefused(t, text, 0, api.ErrForm)
			expectRefused(t, rest+times(line, count), 0, api.ErrForm)
			// A line that is none is told ahead of it.
			lines := strings.Count(text, "\n")
			expectRefused(t, text+"x", lines+1, api.ErrForm)
			expectRefused(t, text+"rule weak r:"+times("(", 32)+"=a", lines+1, api.ErrDeep)
			expectRefused(t, "\nx\n"+text, 2, api.ErrForm)
		}
	}
}

// P6.2: a param that is Large may not be, but its line is one.
func TestParseOfLargeParams(t *testing.T) {
	edge := new(big.Int).Lsh(big.NewInt(1), 32*api.MaxLimbs)
	below := new(big.Int).Sub(edge, big.NewInt(1))
	for _, s := range []string{below.String(), "-" + below.String(), "1/" + below.String(), "000" + below.String(), below.String() + ".0", "0." + times("0", 153) + "1", "1/1" + times("0", 154), new(big.Int).Mul(edge, big.NewInt(2)).String() + "/4"} {
		expectParsed(t, "param p "+s, api.Form{Params: []api.Param{{Name: "p", Val: written(s)}}})
	}
	for _, s := range []string{edge.String(), "-" + edge.String(), "1/" + edge.String(), edge.String() + ".0", times("9", 400), "-" + times("9", 399), "0." + times("0", 154) + "1", "1/1" + times("0", 155), "1" + times("0", 155), edge.String() + "/3", times("7", 200) + "/" + times("3", 198) + "1"} {
		if len(s) > 400 {
			t.Fatal("the test's number has", len(s), "bytes")
		}
		expectRefused(t, "param p "+s, 0, api.ErrForm)
		expectRefused(t, "\n\nparam p "+s+"\npage g\n", 0, api.ErrForm)
		expectRefused(t, "param p "+s+"\nx", 2, api.ErrForm)
		expectRefused(t, "param p "+s+"\nparam q 1/0", 2, api.ErrForm)
		expectRefused(t, "param p "+s+"\n\nrule weak r : a = "+s+"1", 3, bigErr(s))
		expectRefused(t, "param p "+s+"\nrule weak r : a = "+times("(", 32), 2, api.ErrDeep)
		expectRefused(t, wholeText+"param p "+s, 0, api.ErrForm)
	}
}

// bigErr is the error of an expression of the number s with a digit more.
func bigErr(s string) api.Errno {
	_, _, err := bothSides("a", s+"1")
	return err
}

// P6.2: all short lines of words.
func TestParseOfAllShortLines(t *testing.T) {
	try := func(ahead string, words []string, most int) {
		var from func(s string, more int)
		from = func(s string, more int) {
			checkParse(t, s)
			for _, word := range words {
				if more > 0 {
					from(s+word, more-1)
				}
			}
		}
		from(ahead, most)
	}
	try("", []string{"switch ", "param ", "page ", "field ", "check ", "rule ", "a ", "1 ", "# ", "on ", "\n", ": "}, 4)
	try("page o\nfield ", []string{"a ", "must ", "scale ", "0 ", "7 ", "10 ", " ", "when ", "must"}, 5)
	try("switch ", []string{"a ", "on ", "off ", "1 ", " ", "on", "off", "#"}, 4)
	try("param ", []string{"a ", "1", "-", "/", ".", "0", " "}, 5)
	try("page ", []string{"a ", "when ", "A ", " ", "when", "9", "\n"}, 5)
	try("page o\ncheck ", []string{"a", ":", "=", "<", " ", "1"}, 6)
	try("page o\ncheck a:a", []string{"a", ":", "=", "<", " ", "+1"}, 5)
	try("rule ", []string{"weak ", "strong ", "a ", "when ", ":", "= ", "< "}, 6)
	try("rule medium a when b", []string{"a", ":", "=", "<", " ", "1"}, 6)
}

// P6.2: each byte at each place.
func TestParseOfAllBytes(t *testing.T) {
	for b := range 256 {
		for _, s := range append(goodLines(), "rule weak r:a=b", "#", "") {
			for i := range len(s) + 1 {
				checkParse(t, "page o\n"+s[:i]+string([]byte{byte(b)})+s[i:])
				if i < len(s) {
					checkParse(t, "page o\n"+s[:i]+string([]byte{byte(b)})+s[i+1:])
				}
			}
		}
	}
}

// P6.2: long texts, as they are printed, and spoilt in some place.
func TestParseOnManyTexts(t *testing.T) {
	r := rand.New(rand.NewSource(66))
	for range 500 {
		s := formText(grown(r, 1+r.Intn(10)))
		checkParse(t, s)
		for range 5 {
			i := r.Intn(len(s) + 1)
			checkParse(t, s[:i]+string("a9 \n:=<-#A(_"[r.Intn(12)])+s[i:])
			checkParse(t, s[:i]+s[min(len(s), i+1):])
			checkParse(t, s[:i])
			checkParse(t, s[i:])
		}
		lines := strings.SplitAfter(s, "\n")
		r.Shuffle(len(lines), func(i, j int) { lines[i], lines[j] = lines[j], lines[i] })
		checkParse(t, strings.Join(lines, ""))
		checkParse(t, "page o\n"+strings.Join(lines, ""))
		checkParse(t, strings.ReplaceAll(s, " : ", ":"))
	}
	words := []string{"page ", "field ", "rule ", "weak ", "a ", "b ", "when ", ":", "=", "<", "<=", "\n", "\npage g\n", "\ncheck c:a=b\n", "\nfield a must\n", "scale 2", "#", "switch a on\n", "param p 1/2\n", " ", "1", "-"}
	for range 20000 {
		var b strings.Builder
		for range r.Intn(14) {
			b.WriteString(words[r.Intn(len(words))])
		}
		checkParse(t, b.String())
	}
}

package dec_test

import (
	"math/big"
	"math/rand"
	"regexp"
	"strings"
	"testing"

	"pantograph/api"
	"pantograph/dec"
	"pantograph/rat"
)

func digits(digit string, n int) string { return strings.Repeat(digit, n) }

func expectParsed(t *testing.T, s string, want *big.Rat) {
	t.Helper()
	got, err := dec.Parse(s)
	if err != api.OK {
		t.Fatalf("Parse refuses %d bytes, %.60q: %v", len(s), s, err)
	}
	expect(t, got, want, "Parse", s)
}

// P3.1: the number is 0 with an error; it has no limbs at all.
func expectRefused(t *testing.T, s string, want api.Errno) {
	t.Helper()
	got, err := dec.Parse(s)
	if err != want {
		t.Fatalf("Parse of %d bytes, %.60q, answers %v", len(s), s, err)
	}
	if !rat.Zero(got) || !alike(got, api.Rat{}) {
		t.Fatalf("Parse of %d bytes, %.60q, answers %v with an error", len(s), s, got)
	}
}

// P3.1
func TestParseByHand(t *testing.T) {
	nought := ratOf(false, nil, []uint32{1})
	tests := []struct {
		s    string
		want api.Rat
	}{
		{"0", nought}, {"-0", nought}, {"000", nought}, {"-000.000", nought}, {"0.0", nought}, {"0/7", nought}, {"-0/7", nought}, {"-00/0070", nought},
		{"1", small(1, 1)}, {"-1", small(-1, 1)}, {"007", small(7, 1)}, {"-007", small(-7, 1)}, {"10", small(10, 1)}, {"90", small(90, 1)},
		{"0.5", small(1, 2)}, {"-0.5", small(-1, 2)}, {"00.50", small(1, 2)}, {"1.0", small(1, 1)}, {"-1.00", small(-1, 1)}, {"1.5", small(3, 2)},
		{"12.34", small(617, 50)}, {"-12.34", small(-617, 50)}, {"0.001", small(1, 1000)}, {"1.001", small(1001, 1000)}, {"100.125", small(801, 8)},
		{"1/2", small(1, 2)}, {"-1/2", small(-1, 2)}, {"2/4", small(1, 2)}, {"-6/4", small(-3, 2)}, {"6/3", small(2, 1)}, {"7/7", small(1, 1)},
		{"1/1", small(1, 1)}, {"007/0014", small(1, 2)}, {"1/10", small(1, 10)}, {"1/01", small(1, 1)}, {"-3/9000", small(-1, 3000)},
		{"4294967295", small(most, 1)}, {"4294967296", ratOf(false, []uint32{0, 1}, []uint32{1})}, {"1/4294967296", ratOf(false, []uint32{1}, []uint32{0, 1})},
		{"-18446744073709551615/4294967296", ratOf(true, []uint32{most, most}, []uint32{0, 1})},
		{"0.0000000000000000000000000000000000000000000000000000000000000000", nought},
		{"0.00000000023283064365386962890625", ratOf(false, []uint32{1}, []uint32{0, 1})},
	}
	for _, x := range tests {
		got, err := dec.Parse(x.s)
		if err != api.OK || !alike(got, x.want) {
			t.Error("Parse", x.s, got, err)
		}
	}
}

// P3.1: a text of 400 bytes is not too long, whatever they are.
func TestParseOfLongTexts(t *testing.T) {
	for _, s := range []string{
		digits("9", 400), digits("0", 400), digits("0", 399) + "7", "1" + digits("0", 399), "-" + digits("9", 399), "-" + digits("0", 399),
		"0." + digits("0", 397) + "1", "-0." + digits("9", 397), "9." + digits("9", 398), digits("9", 398) + ".5", digits("9", 200) + "." + digits("9", 199),
		"1/" + digits("9", 398), "-1/" + digits("0", 396) + "7", digits("9", 398) + "/7", "-" + digits("9", 200) + "/" + digits("8", 198),
		digits("6", 199) + "/" + digits("4", 200),
	} {
		if len(s) != 400 {
			t.Fatal("the test's text has", len(s), "bytes:", s)
		}
		expectParsed(t, s, read(s))
		expectParsed(t, s[:2]+s[3:], read(s[:2]+s[3:]))
		expectRefused(t, s+"0", api.ErrLong)
		expectRefused(t, s[:399]+" ", api.ErrForm)
	}
}

// P3.1
func TestParseOnManyTexts(t *testing.T) {
	r := rand.New(rand.NewSource(3))
	row := func() string {
		s := make([]byte, 1+r.Intn(1+r.Intn(190)))
		for i := range s {
			s[i] = "00123456789"[r.Intn(11)]
		}
		return string(s)
	}
	for range 4000 {
		sign := []string{"", "-"}[r.Intn(2)]
		whole, behind, under := row(), row(), row()
		expectParsed(t, sign+whole, read(sign+whole))
		expectParsed(t, sign+whole+"."+behind, read(sign+whole+"."+behind))
		if strings.Trim(under, "0") == "" {
			expectRefused(t, sign+whole+"/"+under, api.ErrForm)
			continue
		}
		expectParsed(t, sign+whole+"/"+under, read(sign+whole+"/"+under))
	}
}

// P3.1
func TestParseRefuses(t *testing.T) {
	for _, s := range []string{
		"", "-", ".", "/", "--", "-.", "-/", "./", "/.", "..", "//", " ", "\x00", "+",
		".5", "-.5", "5.", "-5.", "0.", ".0", ".", "1..2", "1.2.3", "1.-2", "1.+2", "1. 2", "1 .2", "1,5", "1.5.", ".1.5",
		"1/", "/2", "-/2", "-1/", "1//2", "1/2/3", "1/-2", "1/+2", "-1/-2", "1/ 2", "1 /2", "1/2/", "/1/2",
		"1/0", "-1/0", "0/0", "1/000", "-0/00", "1/" + digits("0", 398), digits("7", 199) + "/" + digits("0", 200),
		"1.5/2", "1/2.5", "1.5/2.5", "1./2", "1/.5", "1/2.", ".1/2", "1/0.0", "0.5/1",
		"--1", "-+1", "+1", "+-1", "1-", "1-2", "- 1", " -1", "-1 ", " 1", "1 ", "1 2", "\t1", "1\n", "1\r\n", "1\x00", "\x001",
		"1e5", "1E5", "1.5e5", "0x10", "0b1", "0o7", "1_000", "1_0.5", "a", "1a", "a1", "1.a", "1.2a", "1/a", "1/2a", "inf", "-inf", "nan", "NaN", "i", "1%",
		"\xff", "1\xff", "\xb1", "\u0661", "\uff11", "1\uff11", "1.\uff11", "1/\u0662", "\u00bd", "\u22121", "1\u20442", "1\uff0e5", "\ufeff1", "\u00b2",
		digits("1", 399) + "x", "-" + digits("1", 398) + "-", digits(" ", 400), digits("-", 400), digits(".", 400), digits("/", 400), "." + digits("1", 399), digits("1", 399) + ".", digits("1", 399) + "/",
	} {
		expectRefused(t, s, api.ErrForm)
	}
}

// P3.1: ErrLong is asked ahead of all, of bytes and not of what they are.
func TestParseOfTooLongTexts(t *testing.T) {
	for _, s := range []string{
		digits("1", 401), digits("0", 401), "-" + digits("1", 400), "-" + digits("1", 399) + "7", "1." + digits("0", 399), "0." + digits("5", 399), "1/" + digits("7", 399), digits("9", 200) + "/" + digits("8", 200),
		digits("x", 401), digits(" ", 401), digits("1", 400) + " ", " " + digits("1", 400), digits("-", 401), digits(".", 401), digits("/", 401), digits("\x00", 401), digits("\xff", 500),
		"1/" + digits("0", 399), "." + digits("1", 400), digits("1", 400) + ".", digits("1", 400) + "/", "1." + digits("0", 400), digits("\u0661", 201), digits("1", 402), digits("7", 1<<20), digits("x", 1<<20),
	} {
		expectRefused(t, s, api.ErrLong)
	}
	// Runes do not count: 200 of two bytes are 400 bytes.
	expectRefused(t, digits("\u0661", 200), api.ErrForm)
}

// P3.1: all short texts of the bytes that belong to numbers, and of some that
// stand beside them.
func TestParseOfAllShortTexts(t *testing.T) {
	number := regexp.MustCompile(`\A-?[0-9]+(\.[0-9]+|/0*[1-9][0-9]*)?\z`)
	var try func(s string, more int)
	try = func(s string, more int) {
		if number.MatchString(s) {
			expectParsed(t, s, read(s))
		} else {
			expectRefused(t, s, api.ErrForm)
		}
		if more == 0 {
			return
		}
		for _, b := range "0179-./+ e" {
			try(s+string(b), more-1)
		}
	}
	try("", 5)
}

// P3.1: each byte at each place of a number.
func TestParseOfAllBytes(t *testing.T) {
	for b := range 256 {
		if b >= '0' && b <= '9' {
			continue
		}
		bad := string([]byte{byte(b)})
		for _, s := range []string{"1234567", "-12345", "12.345", "-0.125", "12/345", "-120/7"} {
			for i := range len(s) + 1 {
				if text := s[:i] + bad + s[i:]; !strings.Contains("-./", bad) {
					expectRefused(t, text, api.ErrForm)
				}
			}
		}
	}
}

// P3.1
func TestPrintByHand(t *testing.T) {
	tests := []struct {
		a    api.Rat
		want string
	}{
		{small(1, 1), "1"}, {small(-1, 1), "-1"}, {small(10, 1), "10"}, {small(-120, 1), "-120"}, {small(1, 2), "1/2"}, {small(-1, 2), "-1/2"},
		{small(5, 6), "5/6"}, {small(10, 7), "10/7"}, {small(7, 10), "7/10"}, {small(-1, most), "-1/4294967295"},
		// These are not normal.
		{small(2, 4), "1/2"}, {small(-6, 4), "-3/2"}, {small(6, 3), "2"}, {small(-7, 7), "-1"},
		{ratOf(true, []uint32{5, 0}, []uint32{6, 0, 0}), "-5/6"}, {ratOf(false, []uint32{5, 0}, []uint32{1, 0}), "5"}, {ratOf(false, []uint32{0, 6}, []uint32{0, 4}), "3/2"},
		{ratOf(false, []uint32{0, 1}, []uint32{1}), "4294967296"}, {ratOf(true, []uint32{1}, []uint32{0, 1}), "-1/4294967296"},
		{ratOf(true, []uint32{most, most}, []uint32{0, 0, 1}), "-18446744073709551615/18446744073709551616"},
	}
	for _, x := range tests {
		if got := dec.Print(x.a); got != x.want {
			t.Error("Print", x.a, got)
		}
	}
	for _, a := range noughts() {
		if got := dec.Print(a); got != "0" {
			t.Error("Print of a 0", a, got)
		}
	}
}

// P3.1, P3.3
func TestPrintOnManyNumbers(t *testing.T) {
	many(func(a api.Rat) {
		x := value(a)
		s := dec.Print(a)
		if s != x.RatString() {
			t.Fatal("Print", a, s)
		}
		if len(s) > 400 {
			expectRefused(t, s, api.ErrLong)
			return
		}
		expectParsed(t, s, x)
		if got, _ := dec.Parse(s); !rat.Same(got, a) {
			t.Fatal("Parse of Print is not the number", a, got)
		}
	})
}

// P3.3: numbers of as many limbs as are not too many are short enough.
func TestParseOfPrintOfTheGreatest(t *testing.T) {
	greatest, next := make([]uint32, api.MaxLimbs), make([]uint32, api.MaxLimbs)
	for i := range greatest {
		greatest[i], next[i] = most, most
	}
	next[0]--
	for _, a := range []api.Rat{ratOf(true, greatest, next), ratOf(false, next, greatest), ratOf(true, greatest, []uint32{1})} {
		expectParsed(t, dec.Print(a), value(a))
		expectParsed(t, dec.Print(twisted(a, 720, 3)), value(a))
	}
}

// W1: no bound is told for what is printed.
func TestPrintOfLongNumbers(t *testing.T) {
	r := rand.New(rand.NewSource(13))
	a := ratOf(true, append(randomRow(r, 600), 1, 0), append(randomRow(r, 300), 1))
	if got := dec.Print(a); got != value(a).RatString() {
		t.Error("Print of long parts", got)
	}
}

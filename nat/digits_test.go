package nat_test

import (
	"math/big"
	"math/rand"
	"strings"
	"testing"

	"pantograph/nat"
)

func expectParsed(t *testing.T, s string) {
	t.Helper()
	a, ok := nat.Parse(s)
	if !ok {
		t.Fatal("Parse refuses", len(s), s)
	}
	want, _ := new(big.Int).SetString(s, 10)
	expect(t, a, want, "Parse", s)
	if got := nat.Print(a); got != want.String() {
		t.Fatal("Print of Parse", s, got)
	}
}

func expectRefused(t *testing.T, s string) {
	t.Helper()
	if a, ok := nat.Parse(s); ok || len(a) != 0 {
		t.Fatalf("Parse of %d bytes takes %.50q: %v %v", len(s), s, a, ok)
	}
}

// P1.3
func TestParse(t *testing.T) {
	for _, s := range []string{"0", "1", "9", "00", "007", "10", "999999999", "1000000000", "4294967295", "4294967296", "4294967297", "18446744073709551615", "18446744073709551616"} {
		expectParsed(t, s)
	}
	r := rand.New(rand.NewSource(17))
	for n := 1; n <= 400; n++ {
		digits := make([]byte, n)
		for i := range digits {
			digits[i] = byte('0' + r.Intn(10))
		}
		expectParsed(t, string(digits))
		expectParsed(t, strings.Repeat("9", n))
		expectParsed(t, strings.Repeat("0", n))
		expectParsed(t, "1"+strings.Repeat("0", n-1))
		expectParsed(t, strings.Repeat("0", n-1)+"8")
	}
}

// P1.3
func TestParseRefuses(t *testing.T) {
	for _, s := range []string{
		"", " ", "-", "+", "-1", "+1", "-0", "1-", " 1", "1 ", "1 2", "\t1", "1\n", "1\r\n", "\x00", "1\x00", "\x001",
		"1.", ".1", "1.0", "1,000", "1_000", "1e5", "0x10", "0b1", "0o7", "a", "f", "1a", "1/2", "/", ":", "nan", "inf",
		"\xff", "1\xff", "\xb1", "\u0661", "\uff11", "1\uff11", "\u0967", "\u00b2", "\u2160", "\ufeff1",
		strings.Repeat("1", 401), strings.Repeat("0", 401), strings.Repeat("0", 400) + "7", strings.Repeat("9", 402),
		strings.Repeat("1", 400) + " ", "-" + strings.Repeat("1", 399), strings.Repeat(" ", 400), strings.Repeat("7", 1<<20),
	} {
		expectRefused(t, s)
	}
	for b := range 256 {
		if b >= '0' && b <= '9' {
			continue
		}
		bad := string([]byte{byte(b)})
		for _, s := range []string{bad, bad + "1", "1" + bad, "12" + bad + "34", strings.Repeat("1", 399) + bad, bad + strings.Repeat("1", 399)} {
			expectRefused(t, s)
		}
	}
	for i := range 400 {
		expectRefused(t, strings.Repeat("3", i)+"x"+strings.Repeat("3", 399-i))
	}
}

// P1.3
func TestPrint(t *testing.T) {
	for _, x := range []struct {
		a    []uint32
		want string
	}{
		{nil, "0"}, {[]uint32{}, "0"}, {[]uint32{0}, "0"}, {[]uint32{0, 0, 0}, "0"}, {[]uint32{7}, "7"}, {[]uint32{7, 0}, "7"},
		{[]uint32{10}, "10"}, {[]uint32{999999999}, "999999999"}, {[]uint32{1000000000}, "1000000000"}, {[]uint32{1000000001, 0}, "1000000001"},
		{[]uint32{most}, "4294967295"}, {[]uint32{0, 1, 0}, "4294967296"}, {[]uint32{most, most}, "18446744073709551615"}, {[]uint32{0, 0, 1}, "18446744073709551616"},
	} {
		if got := nat.Print(x.a); got != x.want {
			t.Error("Print", x.a, got)
		}
	}
	power := big.NewInt(1)
	for range 600 {
		for d := int64(-1); d <= 1; d++ {
			n := new(big.Int).Add(power, big.NewInt(d))
			if got := nat.Print(limbs(n)); got != n.String() {
				t.Fatal("Print", n, got)
			}
		}
		power = new(big.Int).Mul(power, big.NewInt(10))
	}
	r := rand.New(rand.NewSource(19))
	for n := range 200 {
		a := append(randomRow(r, n), make([]uint32, n%3)...)
		if got := nat.Print(a); got != value(a).String() {
			t.Fatal("Print", a, got)
		}
	}
}

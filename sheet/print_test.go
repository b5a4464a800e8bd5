package sheet_test

import (
	"math/rand"
	"slices"
	"strconv"
	"strings"
	"testing"

	"pantograph/api"
	"pantograph/sheet"
)

// expectPrinted also holds what is read of it against it: P6.4.
func expectPrinted(t *testing.T, f api.Form, want string) {
	t.Helper()
	s := sheet.Print(f)
	if s != want {
		t.Fatalf("Print is %q, not %q", short(s), short(want))
	}
	if !sheet.Is(f) {
		t.Fatalf("Is refuses what is printed as %q", short(s))
	}
	got, at, err := sheet.Parse(s)
	if err != api.OK || at != 0 || !alike(got, f) || !sheet.Same(got, f) || !sheet.Same(f, got) {
		t.Fatalf("Parse of Print, %q, is %v, %v in line %d", short(s), got, err, at)
	}
}

// expectNothing is asked of forms that may not be.
func expectNothing(t *testing.T, f api.Form) {
	t.Helper()
	if s := sheet.Print(f); s != "" || sheet.Is(f) {
		t.Fatalf("what may not be may be, and is printed as %q", short(s))
	}
}

// P6.1, P6.4
func TestPrintByHand(t *testing.T) {
	a, b := named("a"), named("b")
	page := []api.Page{{Name: "g"}}
	for _, x := range []struct {
		f    api.Form
		want string
	}{
		{api.Form{}, ""},
		{whole(), wholeText},
		{api.Form{Switches: []api.Switch{{Name: "s", On: true}}}, "switch s on\n"},
		{api.Form{Switches: []api.Switch{{Name: "s"}}}, "switch s off\n"},
		{api.Form{Switches: []api.Switch{{Name: "t"}, {Name: "s", On: true}, {Name: "t"}}}, "switch t off\nswitch s on\nswitch t off\n"},
		{api.Form{Params: []api.Param{{Name: "p", Val: small(0, 1)}}}, "param p 0\n"},
		{api.Form{Params: []api.Param{{Name: "p", Val: small(-7, 1)}}}, "param p -7\n"},
		{api.Form{Params: []api.Param{{Name: "p", Val: small(1, 2)}}}, "param p 1/2\n"},
		{api.Form{Params: []api.Param{{Name: "p", Val: small(-10, 3)}}}, "param p -10/3\n"},
		{api.Form{Params: []api.Param{{Name: "p", Val: ratOf(false, []uint32{0, 1}, []uint32{1})}}}, "param p 4294967296\n"},
		{api.Form{Params: []api.Param{{Name: "p", Val: small(1, 1)}, {Name: "o", Val: small(2, 1)}}}, "param p 1\nparam o 2\n"},
		{api.Form{Pages: page}, "page g\n"},
		{api.Form{Pages: []api.Page{{Name: "g", When: "s"}}}, "page g when s\n"},
		{api.Form{Pages: []api.Page{{Name: "when", When: "when"}}}, "page when when when\n"},
		{api.Form{Pages: []api.Page{{Name: "h"}, {Name: "g", When: "h"}, {Name: "h"}}}, "page h\npage g when h\npage h\n"},
		{api.Form{Pages: page, Fields: []api.Field{{Name: "a"}}}, "page g\nfield a\n"},
		{api.Form{Pages: page, Fields: []api.Field{{Name: "a", Must: true}}}, "page g\nfield a must\n"},
		{api.Form{Pages: page, Fields: []api.Field{{Name: "a", Scale: 1}}}, "page g\nfield a scale 1\n"},
		{api.Form{Pages: page, Fields: []api.Field{{Name: "must", Must: true, Scale: 9}, {Name: "scale", Scale: 5}}}, "page g\nfield must must scale 9\nfield scale scale 5\n"},
		{api.Form{Pages: page, Checks: []api.Check{{Name: "c", L: a, R: b}}}, "page g\ncheck c : a = b\n"},
		{api.Form{Pages: page, Checks: []api.Check{{Name: "c", Cmp: api.CmpLess, L: number("1"), R: neg(b)}}}, "page g\ncheck c : 1 < -b\n"},
		{api.Form{Pages: page, Checks: []api.Check{{Name: "c", Cmp: api.CmpMost, L: sub(a, b), R: number("0.5")}}}, "page g\ncheck c : a - b <= 0.5\n"},
		{api.Form{Rules: []api.Rule{{Name: "r", L: a, R: b}}}, "rule required r : a = b\n"},
		{api.Form{Rules: []api.Rule{{Name: "r", Strength: api.Strong, L: a, R: number("2")}}}, "rule strong r : a = 2\n"},
		{api.Form{Rules: []api.Rule{{Name: "r", Strength: api.Medium, When: "s", L: a, R: b}}}, "rule medium r when s : a = b\n"},
		{api.Form{Rules: []api.Rule{{Name: "weak", Strength: api.Weak, When: "when", L: quot(a, add(a, b)), R: number("0")}}}, "rule weak weak when when : a / (a + b) = 0\n"},
		// Fields stand ahead of checks, in each page; rules are the last.
		{api.Form{
			Pages:  []api.Page{{Name: "g"}, {Name: "h"}, {Name: "i"}},
			Fields: []api.Field{{Name: "b", Page: 0}, {Name: "a", Page: 0}, {Name: "c", Page: 2}},
			Checks: []api.Check{{Name: "u", Page: 0, L: a, R: b}, {Name: "v", Page: 1, L: a, R: b}, {Name: "t", Page: 2, L: a, R: b}},
			Rules:  []api.Rule{{Name: "r", L: a, R: b}, {Name: "q", L: b, R: a}},
		}, "page g\nfield b\nfield a\ncheck u : a = b\npage h\ncheck v : a = b\npage i\nfield c\ncheck t : a = b\nrule required r : a = b\nrule required q : b = a\n"},
	} {
		expectPrinted(t, x.f, x.want)
		if formText(x.f) != x.want {
			t.Fatalf("the test's own text is %q", formText(x.f))
		}
	}
}

// P6.1: each word of each line, with each of the others.
func TestPrintOfAllWords(t *testing.T) {
	a, b := named("a"), named("b")
	for scale := range api.MaxScale + 1 {
		for _, must := range []bool{false, true} {
			want := "page g\nfield f"
			if must {
				want += " must"
			}
			if scale > 0 {
				want += " scale " + strconv.Itoa(scale)
			}
			expectPrinted(t, api.Form{Pages: []api.Page{{Name: "g"}}, Fields: []api.Field{{Name: "f", Must: must, Scale: scale}}}, want+"\n")
		}
	}
	for strength, word := range []string{"required", "strong", "medium", "weak"} {
		expectPrinted(t, api.Form{Rules: []api.Rule{{Name: "r", Strength: strength, L: a, R: b}}}, "rule "+word+" r : a = b\n")
		expectPrinted(t, api.Form{Rules: []api.Rule{{Name: "r", Strength: strength, When: "s", L: a, R: b}}}, "rule "+word+" r when s : a = b\n")
	}
	for cmp, word := range []string{"=", "<", "<="} {
		expectPrinted(t, api.Form{Pages: []api.Page{{Name: "g"}}, Checks: []api.Check{{Name: "c", Cmp: cmp, L: a, R: b}}}, "page g\ncheck c : a "+word+" b\n")
	}
	for _, x := range goodVals() {
		expectPrinted(t, api.Form{Params: []api.Param{{Name: "p", Val: x}}}, "param p "+bigRat(x).RatString()+"\n")
	}
	for _, x := range goodExprs() {
		s, _ := exprText(x)
		expectPrinted(t, api.Form{Rules: []api.Rule{{Name: "r", L: x, R: b}}}, "rule required r : "+s+" = b\n")
		expectPrinted(t, api.Form{Rules: []api.Rule{{Name: "r", L: a, R: x}}}, "rule required r : a = "+s+"\n")
		expectPrinted(t, api.Form{Pages: []api.Page{{Name: "g"}}, Checks: []api.Check{{Name: "c", L: x, R: x}}}, "page g\ncheck c : "+s+" = "+s+"\n")
	}
	for _, name := range []string{"a", "z", "a9_", "on", "off", "when", "must", "scale", "switch", "param", "page", "field", "check", "rule", "weak", times("z", api.MaxName)} {
		expectPrinted(t, renamed(name), formText(renamed(name)))
	}
}

// renamed is the whole form, with one name for everything.
func renamed(name string) api.Form {
	return with(whole(), func(f *api.Form) {
		for _, at := range names(f) {
			*at = name
		}
		for _, at := range whens(f) {
			*at = name
		}
	})
}

// P6.1, P6.4
func TestPrintOnManyForms(t *testing.T) {
	r := rand.New(rand.NewSource(61))
	for range 1500 {
		f := grown(r, 1+r.Intn(12))
		if want := formText(f); len(want) <= api.MaxText {
			expectPrinted(t, f, want)
		} else {
			expectNothing(t, f)
		}
	}
}

// P6.1, P6.3: as long as may be, and a byte more, in each kind of line.
func TestPrintOfTheLongest(t *testing.T) {
	forms := []api.Form{{}, whole()}
	for _, f := range []api.Form{whole(), {Params: whole().Params}, {Pages: whole().Pages}, {Pages: whole().Pages, Fields: whole().Fields}, {Pages: whole().Pages, Checks: whole().Checks}, {Rules: whole().Rules}} {
		forms = append(forms, f, api.Form{Params: f.Params, Pages: f.Pages, Fields: f.Fields, Checks: f.Checks}, api.Form{Rules: f.Rules})
	}
	for _, f := range forms {
		for _, size := range []int{api.MaxText - 1, api.MaxText} {
			f := padded(f, size)
			expectPrinted(t, f, formText(f))
		}
		for _, size := range []int{api.MaxText + 1, api.MaxText + 12, 2 * api.MaxText} {
			expectNothing(t, padded(f, size))
		}
	}
	// The form alone is longer than what may be.
	for _, size := range []int{400, 4000, 1 << 16} {
		expectNothing(t, api.Form{Rules: slices.Repeat([]api.Rule{{Name: times("r", api.MaxName), L: named("a"), R: named("b")}}, size)})
		expectNothing(t, api.Form{Params: slices.Repeat([]api.Param{{Name: times("r", api.MaxName), Val: ratOf(false, greatest(), []uint32{2})}}, size)})
	}
}

// W1: lists of any length, and expressions that are shared by many.
func TestPrintOfLongLists(t *testing.T) {
	const n = 1 << 17
	expectNothing(t, api.Form{Switches: make([]api.Switch, n)})
	expectNothing(t, api.Form{Switches: slices.Repeat([]api.Switch{{Name: "s"}}, n)})
	expectNothing(t, api.Form{Params: slices.Repeat([]api.Param{{Name: "p", Val: small(1, 1)}}, n)})
	expectNothing(t, api.Form{Pages: slices.Repeat([]api.Page{{Name: "p"}}, n)})
	expectNothing(t, api.Form{Pages: make([]api.Page, 1), Fields: make([]api.Field, n)})
	expectNothing(t, api.Form{Pages: []api.Page{{Name: "p"}}, Fields: slices.Repeat([]api.Field{{Name: "a"}}, n)})
	expectNothing(t, api.Form{Pages: []api.Page{{Name: "p"}}, Checks: slices.Repeat([]api.Check{{Name: "c", L: flat(256), R: flat(256)}}, n)})
	expectNothing(t, api.Form{Rules: slices.Repeat([]api.Rule{{Name: "r", L: flat(255), R: flat(255)}}, n)})
	expectNothing(t, api.Form{Rules: slices.Repeat([]api.Rule{{Name: "r", L: chain(32, named("a")), R: named("a")}}, n)})
	expectNothing(t, api.Form{Params: []api.Param{{Name: "p", Val: ratOf(false, slices.Repeat([]uint32{7}, n), slices.Repeat([]uint32{5}, n))}}})
	expectNothing(t, api.Form{Switches: []api.Switch{{Name: times("s", n)}}})
}

// P6.1: nil lists and empty ones.
func TestPrintOfEmptyLists(t *testing.T) {
	empty := api.Form{Switches: []api.Switch{}, Params: []api.Param{}, Pages: []api.Page{}, Fields: []api.Field{}, Rules: []api.Rule{}, Checks: []api.Check{}}
	expectPrinted(t, empty, "")
	f := api.Form{Pages: []api.Page{{Name: "p"}}, Rules: []api.Rule{{Name: "r", L: named("a"), R: number("0")}}}
	f.Rules[0].L.Kids, f.Rules[0].L.Num = []api.Expr{}, ratOf(false, []uint32{}, []uint32{})
	f.Rules[0].R.Num.N, f.Rules[0].R.Kids = []uint32{}, []api.Expr{}
	f.Switches, f.Params, f.Fields, f.Checks = empty.Switches, empty.Params, empty.Fields, empty.Checks
	expectPrinted(t, f, "page p\nrule required r : a = 0\n")
}

// P6.4: what is read is printed and read again.
func TestPrintOfParse(t *testing.T) {
	for _, x := range []struct{ s, want string }{
		{"page p\nfield  a must\nrule weak r:a=2", "page p\nfield a must\nrule weak r : a = 2\n"},
		{"rule weak r:a=2\npage p\nfield a", "page p\nfield a\nrule weak r : a = 2\n"},
		{"page p\ncheck c:a<=b\nfield a\nparam q 0.50\nswitch s on", "switch s on\nparam q 1/2\npage p\nfield a\ncheck c : a <= b\n"},
		{"  # nothing\n\n   \n", ""},
		{"param p -0\nparam q 10/4\nparam p 007\nparam q -3.0", "param p 0\nparam q 5/2\nparam p 7\nparam q -3\n"},
	} {
		f, at, err := sheet.Parse(x.s)
		if got := sheet.Print(f); err != api.OK || at != 0 || got != x.want {
			t.Errorf("Print of Parse of %q is %q, %v in line %d", x.s, got, err, at)
		}
		again, _, err := sheet.Parse(x.want)
		if err != api.OK || !sheet.Same(again, f) || strings.Contains(x.want, "  ") {
			t.Errorf("Parse of Print of %q is %v, %v", x.s, again, err)
		}
	}
}

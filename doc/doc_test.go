package doc_test

import (
	"slices"
	"strconv"
	"strings"
	"testing"

	"pantograph/api"
	"pantograph/doc"
	"pantograph/sheet"
)

// P16.3: new documents of some forms.
func TestNew(t *testing.T) {
	for _, x := range []struct{ form, want string }{
		{"a", ""}, {"a b c", ""}, {"a; required r : 1 = 1", ""}, {"a b; required r : a = b", "r a"}, {"a b; required r : b = a", "r a"}, {"a b; required r : a + b = 10", "a 10, r a"}, {"a b; required r : b + a = 10; weak q : a = 3", "a 3, b 7, r b, q a"},
		{"a; weak r : a = 5", "a 5, r a"}, {"a; medium r : a = 5", "a 5, r a"}, {"a; strong r : a = 5", "a 5, r a"}, {"a; required r : a = 5", "a 5, r a"}, {"a; weak r : 2 * a = 5/3", "a 5/6, r a"}, {"a b c; weak r : b = -7", "b -7, r b"},
		{"a; weak q : a = 1; strong r : a = 2", "a 2, r a"}, {"a; weak q : a = 1; weak r : a = 2", "a 1, q a"}, {"a; weak r : 1 = 2; required q : 0 = 0", ""}, {"a b c; required q : a = b; required r : b = c; strong s : c = 4", "a 4, b 4, c 4, q a, r b, s c"},
		// Params and switches are as the form says.
		{"a; param p 3; weak r : a = p", "a 3, r a"}, {"a; param p 2/3; param z -1/2; weak r : a * p = z", "a -3/4, r a"}, {"a; param p 3", ""}, {"a; switch s on; weak r when s : a = 1", "a 1, r a"}, {"a; switch s off; weak r when s : a = 1", ""}, {"a; switch s off; switch y on; weak r when s : a = 1; weak q when y : a = 2; weak p : a = 3", "a 2, q a"},
		{"a b; switch s off; param p 0; required q when s : a = 1 / p; required r : a = b + 1", "a 1, r a"}, {"a b; switch s off; required q when s : a = b; required r : a = b + 1; required p when s : 0 = 1", "a 1, r a"},
		// Fields that must be, of other pages, with digits, checks: no difference.
		{"a; field b must; page two; field c scale 2; check k : a < 0; weak r : c = a + b + 1", "a -1, r a"},
	} {
		f := form(x.form)
		d := play(t, f, "new", x.want)
		if slices.Contains(d.Filled, true) || slices.ContainsFunc(d.Pins, func(p doc.Pin) bool { return p.On }) {
			t.Error("a new document is filled, or pinned:", d)
		}
		for i, s := range f.Switches {
			if d.On[i] != s.On {
				t.Error("a switch is not as the form says:", x.form)
			}
		}
		for i, p := range f.Params {
			if !alike(d.Params[i], p.Val) {
				t.Error("a param is not as the form says:", x.form)
			}
		}
	}
}

// P16.3, P16.4: forms of which there is no document, and who is in the way.
func TestNoNewDocument(t *testing.T) {
	for _, x := range []struct{ form, want string }{
		// Elab's errors, and the rule's name.
		{"a; param z 0; weak q : a = 1; weak r : a = 1 / z", "!zero r"}, {"a; param z 0; weak r : 1 / z = a; weak q : a = 1 / z", "!zero r"}, {"a; param z 0; switch s on; weak q : a = 1; weak r when s : a = 1 / z", "!zero r"}, {"a b; weak r : a * b = 1", "!linear r"}, {"a b; weak q : a = 1; weak r : 1 / b = a", "!linear r"}, {"a; weak r : a = x", "!name x"}, {"a a", "!name a"}, {"a; weak r when s : a = 1", "!name s"}, {"a; weak r : a = 1; weak a : a = 2", "!name a"},
		// Who is forced, who closes a ring.
		{"a; required q : a = 1; required r : a = 2", "!forced r"}, {"a; required q : a = 1; required r : a = 1; required p : a = 3", "!forced r"}, {"a; required r : 0 = 1", "!forced r"}, {"a b; strong p : a = 4; required q : a = b; required r : a = b", "!cycle r"}, {"a b c; weak p : a = b; weak q : b = c; weak r : c = a; required x : 0 = 1", "!cycle r"}, {"a; switch s off; required q when s : a = 1; required p : a = 1; required r : a = 2", "!forced r"}, {"a b; switch s off; weak p when s : a = b; weak q : a = b; weak x when s : 0 = 1; weak r : a + b = 1", "!cycle r"},
		// No fields: a Phase's ErrArg tells no names.
		{"", "!arg"}, {"; required r : 0 = 1", "!arg"}, {"; switch s on; param p 2; check k : 0 < 1; weak r when s : p = 1", "!arg"}, {"; weak r : a = 1", "!name a"}, {"; param z 0; weak r : 1 = 1 / z", "!zero r"},
	} {
		play(t, form(x.form), "new", x.want)
	}
	// What is too large.
	long := "9" + strings.Repeat("0", 150)
	play(t, form("a; param p "+long+"; weak q : a = 1; weak r : a = p * p"), "new", "!large r")
	play(t, form("a; param p "+long+"; param z 0; weak q : a = p * p; weak r : a = 1 / z"), "new", "!zero r")
	play(t, form("a b; param p "+long+"; weak q : b = 1; weak r : a / p = p"), "new", "!large r")
	play(t, form("a b c; param p "+long+"; required q : a = b * p; required r : b = c * p; weak x : c = 1"), "new", "!large q")
	play(t, form("a b c; param p "+long+"; required q : a = b * p; required r : b = c * p; required x : 0 = 1; weak y : c = 1"), "new", "!forced x")
	// Forms that may not be, that are too long.
	o := operationOf("new")
	f := form("a; weak r : a = 1")
	f.Rules[0].Strength = 4
	expectRefused(t, f, doc.Doc{}, o, api.ErrForm)
	f = form("a; param p 1")
	f.Params[0].Val = small(2, 2)
	expectRefused(t, f, doc.Doc{}, o, api.ErrForm)
	f = api.Form{Pages: []api.Page{{Name: "p"}}}
	for i := range 65 {
		f.Fields = append(f.Fields, api.Field{Name: "a" + strconv.Itoa(i)})
	}
	expectRefused(t, f, doc.Doc{}, o, api.ErrLong)
	expectSaid(t, f, doc.Doc{}, o)
	f.Fields = f.Fields[:64]
	play(t, f, "new", "")
	expectRefused(t, api.Form{}, doc.Doc{}, o, api.ErrArg)
}

// changes are what makes some of a document's lists longer or shorter.
func changes() map[string]func(d *doc.Doc, by int) {
	return map[string]func(d *doc.Doc, by int){
		"Vals":   func(d *doc.Doc, by int) { d.Vals = resized(d.Vals, by, whole(0)) },
		"Outs":   func(d *doc.Doc, by int) { d.Outs = resized(d.Outs, by, -1) },
		"Pins":   func(d *doc.Doc, by int) { d.Pins = resized(d.Pins, by, doc.Pin{Val: whole(0)}) },
		"Filled": func(d *doc.Doc, by int) { d.Filled = resized(d.Filled, by, false) },
		"Params": func(d *doc.Doc, by int) { d.Params = resized(d.Params, by, whole(0)) },
		"On":     func(d *doc.Doc, by int) { d.On = resized(d.On, by, false) },
	}
}

func resized[T any](list []T, by int, more T) []T {
	if by < 0 {
		return slices.Clone(list[:len(list)+by])
	}
	return append(slices.Clone(list), slices.Repeat([]T{more}, by)...)
}

// expectNoCons: an error, and nothing else.
func expectNoCons(t *testing.T, f api.Form, d doc.Doc, want api.Errno) {
	t.Helper()
	l, outs, err := doc.Cons(f, d)
	if err != want || l != nil || outs != nil {
		t.Fatalf("Cons is %v, %v, %v, not %v: %v", l, outs, errorWord(err), errorWord(want), d)
	}
	expectIs(t, f, d, false)
	expectCons(t, f, d)
}

// P16.1: Vals, Outs, Pins, Filled that are not as many are told ahead of
// Elab's error; Params and On that are not as many are Elab's.
func TestAsMany(t *testing.T) {
	f := form("a b; switch s on; param p 2; weak r : a = p; weak q when s : b = p")
	good := document(f, "a 2, b 2, r a, q b")
	expectIs(t, f, good, true)
	name, zero := form("a b; switch s on; param p 2; weak r : a = x; weak q : a = x"), form("a b; switch s on; param p 0; weak r : a = 1 / p; weak q : a = 1")
	expectNoCons(t, name, good, api.ErrName)
	expectNoCons(t, zero, document(zero, ""), api.ErrZero)
	for part, change := range changes() {
		for _, by := range []int{-1, 1, 2, 1000} {
			d := copyOf(good)
			change(&d, by)
			expectNoCons(t, f, d, api.ErrArg)
			isElab := part == "Params" || part == "On"
			want := api.ErrArg
			if isElab {
				want = api.ErrName
			}
			expectNoCons(t, name, d, want)
			d.Params, d.On = nil, nil
			expectNoCons(t, name, d, want)
			d = document(zero, "")
			change(&d, by)
			expectNoCons(t, zero, d, api.ErrArg)
		}
	}
	for _, d := range []doc.Doc{{}, {Vals: good.Vals}, {Params: good.Params, On: good.On}, {Vals: good.Vals, Outs: good.Outs, Pins: good.Pins}} {
		expectNoCons(t, f, d, api.ErrArg)
		expectNoCons(t, name, d, api.ErrArg)
	}
	expectNoCons(t, f, doc.Doc{Vals: good.Vals, Outs: good.Outs, Pins: good.Pins, Filled: good.Filled}, api.ErrArg)
	expectNoCons(t, name, doc.Doc{Vals: good.Vals, Outs: good.Outs, Pins: good.Pins, Filled: good.Filled}, api.ErrName)
	// Of nothing as many as of nothing.
	expectCons(t, api.Form{}, doc.Doc{})
	if l, outs, err := doc.Cons(api.Form{}, doc.Doc{Params: []api.Rat{}, Outs: []int{}}); len(l)+len(outs) > 0 || err != api.OK {
		t.Error("Cons of nothing is", l, outs, err)
	}
	expectNoCons(t, api.Form{}, doc.Doc{Vals: make([]api.Rat, 1)}, api.ErrArg)
	none := form("; param p 1; weak r : p = 2")
	expectCons(t, none, document(none, ""))
	expectIs(t, none, document(none, ""), false)
}

// P16.1: params that are not normal or Large, divisors that are 0, numbers that
// come too large.
func TestElabErrors(t *testing.T) {
	f := form("a b; switch s on; param p 2; weak r : a = p; weak q when s : b * p * p = 1 / p")
	d := document(f, "a 2, b 1/8, r a, q b")
	expectIs(t, f, d, true)
	for _, a := range slices.Concat(roughNumbers(), largeNumbers()) {
		d.Params[0] = a
		expectNoCons(t, f, d, api.ErrArg)
	}
	d.Params[0] = whole(0)
	expectNoCons(t, f, d, api.ErrZero)
	d.Params[0] = number("^512")
	expectNoCons(t, f, d, api.ErrLarge)
	d.On[0] = false
	expectCons(t, f, d)
	expectIs(t, f, document(f, "a 3, p 3, s off, r a"), true)
}

// P16.1: the constraints of active rules, then those of pins, and their
// choice.
func TestCons(t *testing.T) {
	for _, x := range []struct{ form, doc, want string }{
		{"a b", "", ""}, {"a b; required r : a = b", "", "0 a-b=0>-"}, {"a b; required r : a = b", "r a", "0 a-b=0>a"}, {"a b; weak r : 2 * a = 7; strong q : b = 1", "q b", "3 2a-7=0>- 1 b-1=0>b"},
		// Rules that are not active, in the midst, whatever they tell.
		{"a b; switch s off; weak p : a = 1; weak q when s : b = 2; weak r : b = 3", "p a, q b, r b", "3 a-1=0>a 3 b-3=0>b"}, {"a b; switch s on; weak p : a = 1; weak q when s : b = 2; weak r : b = 3", "q b, s off", "3 a-1=0>- 3 b-3=0>-"}, {"a b; switch s off; weak p : a = 1; weak q when s : b = 2; weak r : b = 3", "q b, s on", "3 a-1=0>- 3 b-2=0>b 3 b-3=0>-"},
		// Pins of several fields, in order, behind the rules, of Strength Strong.
		{"a b c", "a 1 pin", "1 a-1=0>-"}, {"a b c", "a 1 pin tells", "1 a-1=0>a"}, {"a b c", "b 1 pin 7 tells", "1 b-7=0>b"}, {"a b c", "c 1/2 pin tells, b 0 pin, a -3 pin tells", "1 a+3=0>a 1 b=0>- 1 c-1/2=0>c"}, {"a b c; required r : c = a; weak q : b = 1", "a 1 pin, c 2 pin tells, q b", "0 -a+c=0>- 3 b-1=0>b 1 a-1=0>- 1 c-2=0>c"}, {"a b; switch s off; required r when s : a = b; weak q : b = 1", "b 5 pin tells, q b", "3 b-1=0>b 1 b-5=0>b"},
		// Params as the document has them.
		{"a b; param p 2; weak r : a = p * b", "p 3", "3 a-3b=0>-"}, {"a b; param p 2; weak r : a = p * b", "", "3 a-2b=0>-"},
	} {
		f := form(x.form)
		d := document(f, x.doc)
		l, outs, err := doc.Cons(f, d)
		var words []string
		for i, c := range l {
			words = append(words, conText(f, c, outs[i]))
		}
		if got := strings.Join(words, " "); got != x.want || err != api.OK || len(outs) != len(l) {
			t.Errorf("Cons of %q is %q, %v, not %q", x.doc, got, err, x.want)
		}
		expectCons(t, f, d)
	}
	// A choice is told as it is, whether it may be or not; so are values of pins.
	f := form("a b; required r : a = b")
	d := document(f, "a 1 pin tells")
	for _, out := range []int{-2, 2, 64, highest, lowest} {
		d.Outs[0] = out
		if _, outs, err := doc.Cons(f, d); !slices.Equal(outs, []int{out, 0}) || err != api.OK {
			t.Error("the choice is", outs, err)
		}
	}
	for _, a := range slices.Concat(roughNumbers(), largeNumbers(), fineNumbers()) {
		d.Pins[0].Val = a
		expectCons(t, f, d)
	}
	d.Pins[0].On = false
	expectCons(t, f, d)
	if _, outs, _ := doc.Cons(f, d); len(outs) != 1 {
		t.Error("a field that is not pinned has a constraint:", outs)
	}
}

// conText is a constraint: its Strength, its sum, and the field that it tells.
func conText(f api.Form, c api.Con, out int) string {
	text := ""
	for _, t := range c.Terms {
		switch number := value(t.C).RatString(); number {
		case "1":
			text += "+" + f.Fields[t.Var].Name
		case "-1":
			text += "-" + f.Fields[t.Var].Name
		default:
			text += "+" + number + f.Fields[t.Var].Name
		}
	}
	if len(c.K.N) > 0 {
		text += "+" + value(c.K).RatString()
	}
	text = strings.TrimPrefix(strings.ReplaceAll(text, "+-", "-"), "+")
	name := "-"
	if out >= 0 {
		name = f.Fields[out].Name
	}
	return strconv.Itoa(c.Strength) + " " + text + "=0>" + name
}

// P16.2: what is a document, and what is none.
func TestIs(t *testing.T) {
	for _, x := range []struct{ form, good, bad string }{
		{"a", "a 0; a 5; a 5 filled; a 0 filled; a 5 pin tells; a 0 pin tells; a 5 pin tells filled", "a 5 pin; a 5 pin 4; a 5 pin 4 tells; a 0 tells; a 5 tells; a 5 pin 4 tells filled"},
		// One that tells must hold; one that tells none must be blocked.
		{"a; weak r : a = 5", "a 5, r a; a 7 pin tells", "a 5; a 7; a 7, r a; a 7 pin tells, r a; a 5 pin, r a; a 5 pin tells, r a; a 7 pin, r a"},
		{"a; strong r : a = 5", "a 5, r a; a 7 pin tells; a 5 pin, r a; a 5 pin 7, r a; a 5 pin tells", "a 5; a 7, r a; a 5 pin; a 7 pin, r a; a 7 pin 5, r a; a 7 pin 5 tells"},
		{"a; required r : a = 5", "a 5, r a; a 5 filled, r a; a 5 pin, r a; a 5 pin 7, r a", "a 5; a 7; a 7, r a; a 5 pin tells; a 7 pin tells; a 5 pin tells, r a"},
		{"a; medium q : a = 1; medium r : a = 2; weak p : a = 3", "a 1, q a; a 2, r a; a 9 pin tells", "a 3, p a; a 1, r a; a 2, q a; a 1, q a, r a; a 1; a 2, r a, p a"},
		// A choice that may not be.
		{"a b c; weak r : a = b", "r a; r b; a 2, b 2, c 1, r a", "r c; a 1, r a; a 1, b 1; a 1, b 1, c 1, r c"},
		{"a b; weak q : a = b; weak r : a = 0", "q b, r a; a 0, b 0, r a, q b", "q a, r a; q a; r a; q b; q a, r b"},
		{"a b; weak q : a = b; weak r : a = b", "", "q a; q a, r b; q b, r a; r a; a 0"},
		{"a b; switch s off; weak q : a = b; weak r when s : a = b; weak p when s : a + b = 0", "q a; q b; a 1, b 1, q b", "q a, s on; q a, r b, s on; r a; q a, r b; q b, r a; q a, p b; a 1, q a"},
		// What is required and tells none has no Terms, with K 0.
		{"a; required r : 0 = 0; required q : a = 1", "a 1, q a", "a 1; a 1, q a, r a; a 0"}, {"a; required r : 0 = 1", "", "a 0; r a; a 1"}, {"a; weak r : 0 = 1; strong q : 1 = 1; medium p : 0 = 0", "a 0; a 7", "r a; q a; p a"}, {"a; required r : a = 1; required q : a = 1", "", "a 1, r a; a 1, q a; a 1, r a, q a"},
		{"a b; required r : a = b; weak q : a = 1; weak p : b = 2", "a 1, b 1, r b, q a; a 2, b 2, r a, p b", "r a; a 1, b 1, q a; a 1, b 2, q a, p b; a 1, b 1, r a, q a; a 2, b 2, r b, p b; a 2, b 2, r b, q a"},
		// Along chains: told from what is weaker nobody is blocked.
		{"a b c; required q : a = b; required r : b = c; weak p : a = 4", "a 4, b 4, c 4, q b, r c, p a", "a 4, b 4, c 4, q a, r b; a 4, b 4, c 4, q b, r c; q a, r b; a 4, b 4, c 5, q b, r c, p a"},
		{"a b; required r : a = b; weak q : a = 1", "a 7, b 7 pin tells, r a; a 7 pin tells, b 7, r b; a 1, b 1, q a, r b; a 7 pin tells, b 7 pin, r b; a 7 pin, b 7 pin tells, r a; a 7 pin tells, b 7 pin 8, r b", "a 7 pin, b 7 pin, r a; a 7 pin tells, b 7 pin tells; a 7, b 7 pin, r a; a 7, b 8 pin tells, r a; a 7 pin tells, b 7 pin tells, r b; a 1 pin tells, b 1, r b, q a"},
		// A rule that is not active tells none.
		{"a; switch s off; weak r when s : a = 5", "a 0; a 5; a 7; a 5, r a, s on; a 9 pin tells; a 9 pin tells, s on", "a 5, r a; a 0, r a; a 5, s on; a 7, s on; a 7, r a, s on"},
		{"a b; switch s on; weak p : a = 5; weak q when s : a = 6; weak r : b = 7", "a 5, b 7, p a, r b; a 6, b 7, q a, r b; a 5, b 7, s off, p a, r b", "a 6, b 7, s off, q a, r b; a 6, b 7, s off, r b; a 5, b 7, s off, p a, q a, r b; a 5, b 7, p a, q b"},
		// Params as the document has them.
		{"a; param p 2; weak r : a = p", "a 2, r a; a 3, p 3, r a; a 0, p 0, r a", "a 2, p 3, r a; a 3, r a"}, {"a; param p 2; weak r : a = 1 / p", "a 1/2, r a; a 3 pin tells", "a 0, p 0; a 0, p 0, r a; a 3, p 0 pin tells"},
		{"a b; param p 1; weak r : p * a = b", "a 2, b 2, r a; r b; b 0, p 0, r b; a 5, p 0, r b", "p 0, r a; a 5, b 5, p 0, r b; p 0"},
		// Forms of which there is none.
		{"", "", "; a"}, {"; weak r : 0 = 0", "", ""}, {"a; weak r : x = 1", "", "a 1"}, {"a b; weak r : a * b = 1", "", "a 1, b 1; a 1, b 1, r a"}, {"a a", "", "a 0"},
	} {
		f := form(x.form)
		for i, list := range []string{x.bad, x.good} {
			for text := range strings.SplitSeq(list, ";") {
				if strings.TrimSpace(text) != "" || i == 0 && list != "" {
					expectIs(t, f, documentOf(f, text), i == 1)
				}
			}
		}
		expectIs(t, f, doc.Doc{}, false)
	}
}

// documentOf is one of a text in which a field or rule may be said that the
// form does not have, which is passed over.
func documentOf(f api.Form, text string) doc.Doc {
	var parts []string
	for part := range strings.SplitSeq(text, ",") {
		word, _, _ := strings.Cut(strings.TrimSpace(part), " ")
		if fieldOf(f, word) >= 0 || ruleOf(f, word) >= 0 || switchOf(f, word) >= 0 || paramOf(f, word) >= 0 {
			parts = append(parts, part)
		}
	}
	return document(f, strings.Join(parts, ","))
}

// P16.2: values, and those of pins, are normal and not Large; that of a field
// that is not pinned is 0, in one way.
func TestNumbersOfDocuments(t *testing.T) {
	f := form("a b c; weak r : b = 1")
	good := document(f, "a 2, b 1, c 3 pin 3 tells, r b")
	expectIs(t, f, good, true)
	for _, a := range fineNumbers() {
		d := copyOf(good)
		d.Vals[0] = a
		expectIs(t, f, d, true)
		d.Vals[2], d.Pins[2].Val = a, a
		expectIs(t, f, d, true)
		d.Pins[0].Val = a
		expectIs(t, f, d, alike(a, whole(0)))
	}
	for _, a := range slices.Concat(roughNumbers(), largeNumbers()) {
		for _, v := range []int{0, 2} {
			d := copyOf(good)
			d.Vals[v] = a
			expectIs(t, f, d, false)
			d.Pins[2].Val = a
			expectIs(t, f, d, false)
			d = copyOf(good)
			d.Pins[v].Val = a
			expectIs(t, f, d, false)
		}
	}
	// The numbers are those of what tells, but for how they are written.
	for way := range 6 {
		d := copyOf(good)
		d.Vals[1] = rewritten(whole(1), way)
		expectIs(t, f, d, false)
		d = copyOf(good)
		d.Vals[2], d.Pins[2].Val = rewritten(whole(3), way), rewritten(whole(3), way)
		expectIs(t, f, d, false)
		d.Vals[2] = whole(3)
		expectIs(t, f, d, false)
		d = copyOf(good)
		d.Pins[0].Val = rewritten(whole(0), way)
		expectIs(t, f, d, false)
	}
	empty := copyOf(good)
	empty.Pins[0].Val = ratOf(false, []uint32{}, []uint32{1})
	expectIs(t, f, empty, true)
	// A field that is not pinned does not tell.
	d := copyOf(good)
	d.Pins[0].Tells = true
	expectIs(t, f, d, false)
	d.Pins[0] = doc.Pin{On: true, Tells: true, Val: whole(2)}
	expectIs(t, f, d, true)
	// Which are filled makes no difference.
	for i := range 8 {
		d.Filled = []bool{i&1 > 0, i&2 > 0, i&4 > 0}
		expectIs(t, f, d, true)
	}
	// Outs that are none.
	for _, out := range []int{-2, -3, 3, 4, 64, 1 << 32, 1<<32 + 1, highest, lowest} {
		d.Outs[0] = out
		expectIs(t, f, d, false)
	}
}

// P16.1, P16.2: as many fields and rules as may be, all of them pinned.
func TestGreatestForm(t *testing.T) {
	var b strings.Builder
	b.WriteString("switch s on\nparam p 2\npage sheet\n")
	for i := range 64 {
		b.WriteString("field a" + strconv.Itoa(i) + "\n")
	}
	for i := range 63 {
		b.WriteString("rule required r" + strconv.Itoa(i) + " when s : a" + strconv.Itoa(i) + " = p * a" + strconv.Itoa(i+1) + "\n")
	}
	f, _, err := sheet.Parse(b.String() + "rule weak r63 when s : a63 = 1\n")
	if err != api.OK {
		t.Fatal("the test's form is none")
	}
	d := play(t, f, "new", inPowers(f, ""))
	for i := range 64 {
		d, _ = expectSaid(t, f, d, operationOf("pin a"+strconv.Itoa(i)))
	}
	l, _, _ := doc.Cons(f, d)
	if len(l) != 128 {
		t.Fatal("there are constraints", len(l))
	}
	expectRefused(t, f, d, operationOf("edit a7 1"), api.ErrBlocked, "a7")
	d, _ = expectSaid(t, f, d, operationOf("switch s off"))
	for i := range 64 {
		d, _ = expectSaid(t, f, d, operationOf("unpin a"+strconv.Itoa(i)))
	}
	d, _ = expectSaid(t, f, d, operationOf("edit a63 3"))
	d, _ = expectSaid(t, f, d, operationOf("switch s on"))
	if value(d.Vals[63]).Cmp(value(whole(1))) != 0 || value(d.Vals[0]).Cmp(value(number("9223372036854775808"))) != 0 {
		t.Error("the values are", inWords(f, d))
	}
}

// inPowers is a document of a chain, each field twice the one behind it.
func inPowers(f api.Form, text string) string {
	for i := range 64 {
		n := strconv.Itoa(i)
		text += "a" + n + " " + strconv.FormatUint(1<<(63-i), 10) + ", r" + n + " a" + n + ", "
	}
	return text
}

// P16.6: Same goes part by part, numbers however they are written.
func TestSame(t *testing.T) {
	f := form("a b; switch s on; param p 2; weak r : a = 1; weak q : b = 2")
	d := document(f, "a 1, b 2/3 filled pin 7 tells, r a, q -")
	expectSame := func(a, b doc.Doc, want bool) {
		t.Helper()
		if doc.Same(a, b) != want || doc.Same(b, a) != want || !doc.Same(a, a) || !doc.Same(b, b) {
			t.Errorf("Same is not %v: %v, %v", want, a, b)
		}
	}
	expectSame(d, copyOf(d), true)
	expectSame(doc.Doc{}, doc.Doc{}, true)
	expectSame(doc.Doc{}, doc.Doc{Params: []api.Rat{}, On: []bool{}, Vals: []api.Rat{}, Outs: []int{}, Pins: []doc.Pin{}, Filled: []bool{}}, true)
	expectSame(doc.Doc{}, d, false)
	for way := range 9 {
		for _, a := range []api.Rat{whole(0), whole(5), small(-2, 3)} {
			one, other := copyOf(d), copyOf(d)
			one.Params[0], other.Params[0] = a, rewritten(a, way)
			expectSame(one, other, true)
			one.Vals[1], other.Vals[1] = a, rewritten(a, way)
			expectSame(one, other, true)
			one.Pins[1].Val, other.Pins[1].Val = a, rewritten(a, way)
			expectSame(one, other, true)
			other.Vals[1] = rewritten(whole(6), way)
			expectSame(one, other, false)
		}
	}
	for i, change := range []func(d *doc.Doc){
		func(d *doc.Doc) { d.Params[0] = whole(3) }, func(d *doc.Doc) { d.Params[0].Neg = true }, func(d *doc.Doc) { d.On[0] = false }, func(d *doc.Doc) { d.Vals[0] = whole(2) }, func(d *doc.Doc) { d.Vals[1] = small(2, 5) }, func(d *doc.Doc) { d.Outs[0] = -1 }, func(d *doc.Doc) { d.Outs[1] = -2 }, func(d *doc.Doc) { d.Outs[1] = 0 },
		func(d *doc.Doc) { d.Pins[0].On = true }, func(d *doc.Doc) { d.Pins[0].Tells = true }, func(d *doc.Doc) { d.Pins[0].Val = whole(1) }, func(d *doc.Doc) { d.Pins[1].On = false }, func(d *doc.Doc) { d.Pins[1].Tells = false }, func(d *doc.Doc) { d.Pins[1].Val = whole(8) }, func(d *doc.Doc) { d.Filled[0] = true }, func(d *doc.Doc) { d.Filled[1] = false },
		func(d *doc.Doc) { d.Vals[0], d.Vals[1] = d.Vals[1], d.Vals[0] }, func(d *doc.Doc) { d.Outs[0], d.Outs[1] = d.Outs[1], d.Outs[0] }, func(d *doc.Doc) { d.Pins[0], d.Pins[1] = d.Pins[1], d.Pins[0] },
	} {
		other := copyOf(d)
		change(&other)
		if doc.Same(d, other) || doc.Same(other, d) {
			t.Error("a part that differs is not told:", i)
		}
	}
	for part, change := range changes() {
		for _, by := range []int{-1, 1} {
			other := copyOf(d)
			change(&other, by)
			if doc.Same(d, other) || doc.Same(other, d) {
				t.Error("one more or less is not told:", part)
			}
		}
	}
}

// P16.6: Own is the same, as it is written, whether it is a document or not.
func TestOwn(t *testing.T) {
	f := form("a b; switch s on; param p 2; weak r : a = 1; weak q : b = 2")
	d := document(f, "a 1, b 2/3 filled pin 7 tells, r a, q -")
	if !alikeDocs(doc.Own(d), d) || !isNothing(doc.Own(doc.Doc{})) {
		t.Error("Own is", doc.Own(d), doc.Own(doc.Doc{}))
	}
	for i, a := range slices.Concat(roughNumbers(), largeNumbers(), fineNumbers()) {
		d.Params[0], d.Vals[i%2], d.Pins[i%2].Val, d.Outs[0] = a, a, a, 1<<i
		d.Pins[1-i%2].On = i%3 == 0
		if !alikeDocs(doc.Own(d), d) {
			t.Error("Own is", doc.Own(d), "not", d)
		}
	}
	d.Filled = append(d.Filled, true, false)
	d.Params, d.Pins = append(d.Params, api.Rat{}), d.Pins[:1]
	if !alikeDocs(doc.Own(d), d) {
		t.Error("Own is", doc.Own(d), "not", d)
	}
}

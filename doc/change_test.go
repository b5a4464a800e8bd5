package doc_test

import (
	"math/rand"
	"slices"
	"strconv"
	"strings"
	"testing"

	"pantograph/api"
	"pantograph/doc"
)

// P16.5: what is pinned, and let go.
func TestSetPin(t *testing.T) {
	for _, x := range []struct {
		form  string
		steps []string
	}{
		{"a", []string{"new", "", "unpin a", "!none", "pin a", "a 0 pin tells", "pin a", "!arg", "unpin a", "", "unpin a", "!none", "edit a 3", "a 3 filled", "pin a", "a 3 filled pin tells", "pin a", "!arg", "unpin a", "a 3 filled"}},
		{"a b; required r : a + b = 10", []string{"new", "a 10, r a", "pin a", "a 10 pin tells, r b", "pin b", "a 10 pin tells, b 0 pin, r b", "pin b", "!arg", "pin a", "!arg", "unpin a", "a 10, b 0 pin tells, r a", "unpin a", "!none", "pin a", "a 10 pin, b 0 pin tells, r a", "unpin b", "a 10 pin tells, r b", "unpin b", "!none", "unpin a", "a 10, r b"}},
		{"a b; required r : a + b = 10", []string{"new", "a 10, r a", "pin b", "a 10, b 0 pin tells, r a", "edit a 3", "!blocked a"}},
		// A pin against rules of each Strength: it tells what is weaker than Strong.
		{"a; weak r : a = 5", []string{"new", "a 5, r a", "pin a", "a 5 pin tells", "unpin a", "a 5, r a"}}, {"a; medium r : a = 5", []string{"new", "a 5, r a", "pin a", "a 5 pin tells", "unpin a", "a 5, r a"}}, {"a; strong r : a = 5", []string{"new", "a 5, r a", "pin a", "a 5 pin, r a", "unpin a", "a 5, r a"}}, {"a; required r : a = 5", []string{"new", "a 5, r a", "pin a", "a 5 pin, r a", "unpin a", "a 5, r a"}},
		// What the pin held in the midst of a chain; what it let go is told anew.
		{"a b c; required q : b = a + 1; required r : c = b + 1; weak p : a = 7", []string{"new", "a 7, b 8, c 9, q b, r c, p a", "pin b", "a 7, b 8 pin tells, c 9, q a, r c", "edit c 3", "!blocked c", "edit a 3", "!blocked a", "unpin b", "a 7, b 8, c 9, q b, r c, p a"}},
		{"a b; param p 1; weak r : a = p; weak q : b = p + 1", []string{"new", "a 1, b 2, r a, q b", "pin a", "a 1 pin tells, b 2, q b", "param p 5", "a 1 pin tells, b 6, q b, p 5", "pin b", "a 1 pin tells, b 6 pin tells, p 5", "param p 6", "a 1 pin tells, b 6 pin tells, p 6", "unpin b", "a 1 pin tells, b 7, q b, p 6", "unpin a", "a 6, b 7, r a, q b, p 6"}},
		// One that was put out tells again, when what put it out goes.
		{"a; switch s off; required r when s : a = 1", []string{"new", "", "edit a 5", "a 5 filled", "pin a", "a 5 filled pin tells", "switch s on", "a 1 filled pin 5, r a, s on", "edit a 5", "!blocked a", "switch s off", "a 5 filled pin tells", "switch s on", "a 1 filled pin 5, r a, s on", "unpin a", "a 1 filled, r a, s on", "pin a", "a 1 filled pin, r a, s on", "switch s off", "a 1 filled pin tells"}},
		{"a b; required r : a = b; weak q : a = 5", []string{"new", "a 5, b 5, r b, q a", "pin b", "a 5, b 5 pin tells, r a", "pin a", "a 5 pin, b 5 pin tells, r a", "unpin b", "a 5 pin tells, b 5, r b", "unpin a", "a 5, b 5, r b, q a"}},
		// No such field.
		{"a; switch s on; param p 1; weak r : a = 1", []string{"new", "a 1, r a", "pin b", "!name", "unpin b", "!name", "pin r", "!name", "unpin s", "!name", "pin p", "!name", "pin sheet", "!name"}},
	} {
		play(t, form(x.form), x.steps...)
	}
}

// P16.5: what a param's number makes of a document.
func TestSetParam(t *testing.T) {
	for _, x := range []struct {
		form  string
		steps []string
	}{
		{"a; param p 2", []string{"new", "", "param p 3", "p 3", "param p 3", "p 3", "param p 0", "p 0", "param p -1/2", "p -1/2"}},
		{"a; param p 2; weak r : a = p", []string{"new", "a 2, r a", "param p 2", "a 2, r a", "param p 3", "a 3, p 3, r a", "edit a 1", "a 3 filled, p 3, r a", "param p 0", "a 0 filled, p 0, r a"}},
		{"a b; param p 2; param z 5; required r : a = p * b; weak q : b = z", []string{"new", "a 10, b 5, r a, q b", "param z 6", "a 12, b 6, z 6, r a, q b", "param p 1/2", "a 3, b 6, p 1/2, z 6, r a, q b", "param p 0", "a 0, b 6, p 0, z 6, r a, q b", "param p 2", "a 12, b 6, z 6, r a, q b", "param z 5", "a 10, b 5, r a, q b"}},
		// It is the first thing behind: what was edited stays where nobody tells.
		{"a b; param p 2; required r : a = p * b", []string{"new", "r a", "edit b 3", "a 6, b 3 filled, r a", "param p 5", "a 15, b 3 filled, p 5, r a", "edit a 5", "a 5 filled, b 1 filled, p 5, r b", "param p 1", "a 1 filled, b 1 filled, p 1, r a"}},
		// The same number: all stays as it is.
		{"a b; param p 1; required r : a = p * b", []string{"new", "r a", "edit a 5", "a 5 filled, b 5, r b", "param p 1", "a 5 filled, b 5, r b", "param p 2", "a 10 filled, b 5, p 2, r a"}},
		// A rule whose constraint is the same tells what it told; another one is
		// asked anew.
		{"a b; param p 1; required r : a + b = 10; weak q : 0 = p", []string{"new", "a 10, r a", "edit a 4", "a 4 filled, b 6, r b", "param p 2", "a 4 filled, b 6, p 2, r b", "param p 0", "a 4 filled, b 6, p 0, r b"}},
		{"a b; param p 1; required r : a + b = 10 * p / p; weak q : 0 = p", []string{"new", "a 10, r a", "edit a 4", "a 4 filled, b 6, r b", "param p 2", "a 4 filled, b 6, p 2, r b", "param p 0", "!zero r"}},
		{"a b c; param p 1; required r : a + b = 10; required q : b + c = p", []string{"new", "a 9, b 1, r a, q b", "edit a 4", "a 4 filled, b 6, c -5, r b, q c", "param p 3", "a 2 filled, b 8, c -5, p 3, r a, q b"}},
		{"a b; param p 1; required r : a = 1; required q : p * b = a - 1", []string{"new", "a 1, r a, q b", "param p 0", "!forced q", "param p 2", "a 1, p 2, r a, q b"}}, {"a b; param p 1; required q : p * b = a - 1; required r : a = 1", []string{"new", "a 1, r a, q b", "param p 0", "!forced q"}},
		{"a b; param p 0; weak r : p * a = b", []string{"new", "r b", "param p 1", "p 1, r a", "param p 0", "r b", "edit a 3", "a 3 filled, r b", "param p 2", "a 0 filled, p 2, r a"}},
		// One of which nothing is left, and one of which something is.
		{"a; param p 0; required r : p * a = 0; weak q : a = 3", []string{"new", "a 3, q a", "param p 1", "a 0, p 1, r a", "param p 0", "a 3, q a"}}, {"a; param p 1; required r : p * a = 2; weak q : a = 3", []string{"new", "a 2, r a", "param p 0", "!forced r", "param p 4", "a 1/2, p 4, r a"}},
		// Rings, and Elab's errors, with the rule's name.
		{"a b; param p 0; weak q : a = p * b; weak r : b = p * a + 1", []string{"new", "b 1, q a, r b", "param p 1", "!cycle r", "param p 0", "b 1, q a, r b"}}, {"a; param p 1; weak q : a = 1; weak r : a = 1 / p", []string{"new", "a 1, q a", "param p 0", "!zero r", "param p 2", "a 1, q a, p 2"}}, {"a; switch s off; param p 1; weak q : a = 1; weak r when s : a = 1 / p", []string{"new", "a 1, q a", "param p 0", "a 1, q a, p 0", "switch s on", "!zero r", "param p 3", "a 1, q a, p 3", "switch s on", "a 1, q a, p 3, s on", "param p 0", "!zero r"}},
		{"a; param p 1; param z 1; weak q : a * p = 1; weak r : a = p * z", []string{"new", "a 1, q a", "param p ^300", "a 1/^300, q a, p ^300", "param z ^300", "!large r", "param z 1/^300", "a 1/^300, q a, p ^300, z 1/^300"}},
		{"a b; param p 1; weak q : a * p = p - 1; weak r : b = p * a", []string{"new", "q a, r b", "param p 0", "r b, p 0", "edit a 3", "a 3 filled, r b, p 0", "param p 3", "a 2/3 filled, b 2, q a, r b, p 3"}},
		// No such param.
		{"a b; switch s on; param p 1; weak r : a = 1", []string{"new", "a 1, r a", "param q 1", "!name", "param a 1", "!name", "param s 1", "!name", "param r 1", "!name", "param sheet 1", "!name"}}, {"a", []string{"new", "", "param a 1", "!name", "switch a on", "!name"}},
	} {
		play(t, form(x.form), x.steps...)
	}
	// A value that comes too large.
	f := form("a b; param p 1; weak r : a = b * p")
	play(t, f, "new", "r a", "edit b ^300", "a ^300, b ^300 filled, r a", "param p ^300", "!large r", "param p ^212", "a ^300*^212, b ^300 filled, r a, p ^212", "param p 0", "b ^300 filled, r a, p 0")
}

// P16.5: what a switch makes of a document.
func TestSetSwitch(t *testing.T) {
	for _, x := range []struct {
		form  string
		steps []string
	}{
		{"a; switch s on", []string{"new", "", "switch s off", "s off", "switch s off", "s off", "switch s on", "", "switch s on", ""}},
		{"a; switch s off; weak r when s : a = 1", []string{"new", "", "switch s off", "", "switch s on", "a 1, r a, s on", "switch s on", "a 1, r a, s on", "switch s off", "a 1", "edit a 5", "a 5 filled", "switch s on", "a 1 filled, r a, s on"}},
		{"a b; switch s on; required r when s : a + b = 10; weak q : a = 3", []string{"new", "a 3, b 7, r b, q a", "switch s off", "a 3, b 7, q a, s off", "edit b 1", "a 3, b 1 filled, q a, s off", "switch s on", "a 3, b 7 filled, r b, q a"}},
		// Of several switches, and rules of one and of none.
		{"a b; switch s off; switch y off; weak p when s : a = 1; weak q when y : a = 2; weak r : b = a", []string{"new", "r a", "switch y on", "a 2, b 2, q a, r b, y on", "switch s on", "a 2, b 2, q a, r b, y on, s on", "switch y off", "a 1, b 1, p a, r b, s on", "switch y on", "a 1, b 1, p a, r b, s on, y on", "switch s off", "a 2, b 2, q a, r b, y on", "switch y off", "a 2, b 2, r b"}},
		// Outs stay where a rule was active and is, of others they are lost.
		{"a b; switch s on; switch y on; required r when s : a + b = 10", []string{"new", "a 10, r a", "edit a 4", "a 4 filled, b 6, r b", "switch y off", "a 4 filled, b 6, r b, y off", "switch s on", "a 4 filled, b 6, r b, y off", "switch s off", "a 4 filled, b 6, y off, s off", "switch s on", "a 4 filled, b 6, r a, y off"}},
		{"a b; switch s off; required r : a + b = 10; required q when s : 0 = 0; weak p when s : 0 = 1", []string{"new", "a 10, r a", "edit a 4", "a 4 filled, b 6, r b", "switch s on", "a 4 filled, b 6, r b, s on", "switch s off", "a 4 filled, b 6, r b"}},
		{"a b c; switch s off; weak q when s : c = 1; required r : a + b = 10; weak p : c = 2", []string{"new", "a 10, c 2, r a, p c", "edit a 4", "a 4 filled, b 6, c 2, r b, p c", "switch s on", "a 4 filled, b 6, c 2, r b, p c, s on", "edit c 9", "a 4 filled, b 6, c 1 filled, r b, q c, s on", "switch s off", "a 4 filled, b 6, c 2 filled, r b, p c"}},
		// Rules that can't hold, go round, are errors.
		{"a; switch s off; required r : a = 1; required q when s : a = 2", []string{"new", "a 1, r a", "switch s on", "!forced q", "switch s off", "a 1, r a"}}, {"a; switch s off; required q when s : a = 2; required r : a = 1", []string{"new", "a 1, r a", "switch s on", "!forced q"}}, {"a b; switch s off; weak r when s : a = b; weak q : a = b + 1", []string{"new", "a 1, q a", "switch s on", "!cycle q", "edit b 1", "a 2, b 1 filled, q a"}}, {"a; switch s off; param z 0; weak q : a = 1; weak r when s : a = 1 / z", []string{"new", "a 1, q a", "switch s on", "!zero r"}},
		{"a; switch s off; required r when s : 0 = 1; required q : 0 = 0", []string{"new", "", "switch s on", "!forced r", "switch s off", ""}},
		{"a; switch s on; required q when s : a = 1; weak r : a = 2", []string{"new", "a 1, q a", "switch s off", "a 2, r a, s off", "switch s on", "a 1, q a"}},
		// No such switch.
		{"a; switch s on; param p 1; weak r when s : a = 1", []string{"new", "a 1, r a", "switch y on", "!name", "switch a on", "!name", "switch p on", "!name", "switch r off", "!name", "switch sheet off", "!name"}},
	} {
		play(t, form(x.form), x.steps...)
	}
	f := grown(form("a; switch s off; param p 1; weak q when s : a * p = 1 / p; weak r when s : a = p * p"), "^300")
	play(t, f, "new", "", "switch s on", "!large r", "param p 1", "p 1", "switch s on", "a 1, p 1, q a, s on")
	f = grown(form("a; switch s off; param p 1; weak q when s : a * p = 1 / p"), "^300")
	play(t, f, "new", "", "switch s on", "!large q")
}

// P16.4, P16.5: a document that Is none is told ahead of all, without names.
func TestWhatIsNoDocument(t *testing.T) {
	f := form("a b; switch s on; param p 1; required r : a + b = 10; weak q when s : b = 3 * p")
	good := document(f, "a 7, b 3, r a, q b")
	expectIs(t, f, good, true)
	var bad []doc.Doc
	for _, change := range changes() {
		for _, by := range []int{-1, 1} {
			d := copyOf(good)
			change(&d, by)
			bad = append(bad, d)
		}
	}
	for _, text := range []string{"", "a 7, b 3, r a", "a 7, b 3, q b", "a 8, b 3, r a, q b", "a 7, b 3, r b, q b", "a 7, b 3, r a, q a", "a 7, b 3, r a, q b, s off", "a 7, b 3, r a, q b, p 2", "a 7, b 3 tells, r a, q b", "a 7, b 3 pin, r a, q b", "a 7, b 3 pin 4 tells, r a"} {
		bad = append(bad, document(f, text))
	}
	for _, change := range []func(d *doc.Doc){func(d *doc.Doc) { d.Vals[0] = rewritten(whole(7), 1) }, func(d *doc.Doc) { d.Pins[0].Val = api.Rat{} }, func(d *doc.Doc) { d.Params[0] = api.Rat{} }, func(d *doc.Doc) { d.Outs[1] = -2 }} {
		d := copyOf(good)
		change(&d)
		bad = append(bad, d)
	}
	of := []string{"edit a 1", "edit b 1", "edit c 1", "edit q 1", "pin a", "pin b", "pin c", "unpin a", "unpin c", "param p 1", "param p 0", "param x 1", "switch s on", "switch s off", "switch x on"}
	for _, text := range of {
		o := operationOf(text)
		for _, d := range append(bad, doc.Doc{}) {
			expectRefused(t, f, d, o, api.ErrArg)
			for _, o.val = range []api.Rat{{}, largeNumbers()[0]} {
				expectRefused(t, f, d, o, api.ErrArg)
			}
		}
		// No document of another form, nor of one that is none.
		for _, other := range []api.Form{{}, form("a b; switch s on; param p 1; required r : a + b = 11; weak q when s : b = 3 * p"), form("a b; switch s on; param p 1; required r : a + b = x; weak q when s : b = 3 * p"), form("a b c; switch s on; param p 1; required r : a + b = 10; weak q when s : b = 3 * p"), form("a b; switch s on; param p 1; required r : a + b = 10 / (p - 1); weak q when s : b = 3 * p")} {
			expectRefused(t, other, good, operationOf(text), api.ErrArg)
		}
	}
}

// maker makes forms and scripts at random.
type maker struct{ *rand.Rand }

func (m *maker) pick(list ...string) string { return list[m.Intn(len(list))] }

func (m *maker) number() string {
	return m.pick("0", "0", "1", "-1", "2", "3", "10", "1/2", "-2/3", "7/5", "-4")
}

// form is one of a few fields, switches, params and rules. Most rules have
// fields of which no other one joined two.
func (m *maker) form() api.Form {
	var fields []string
	for i := range 1 + m.Intn(6) {
		fields = append(fields, "f"+strconv.Itoa(i))
	}
	text, part := strings.Join(fields, " "), map[string]int{}
	for i, field := range fields {
		part[field] = i
	}
	for i := range 3 {
		text += "; switch s" + strconv.Itoa(i) + " " + m.pick("on", "off") + "; param p" + strconv.Itoa(i) + " " + m.number()
	}
	for i := range m.Intn(9) {
		text += "; " + m.pick("required", "required", "strong", "medium", "weak", "weak") + " r" + strconv.Itoa(i)
		if m.Intn(3) > 0 {
			text += " when s" + strconv.Itoa(m.Intn(3))
		}
		text += " : " + m.sum(m.some(fields, part)) + " = " + m.pick("p0", "p1", "p2 - 1", "0", "3", "1 / p2", "p1 / p2", "f0 - f0 + 2", "p0 * p1")
	}
	return form(text)
}

// some are a few fields of a rule.
func (m *maker) some(fields []string, part map[string]int) []string {
	var list []string
	for _, i := range m.Perm(len(fields))[:m.Intn(min(4, len(fields)+1))] {
		isJoined := func(other string) bool { return part[other] == part[fields[i]] }
		if m.Intn(9) == 0 || !slices.ContainsFunc(list, isJoined) {
			list = append(list, fields[i])
		}
	}
	for _, field := range list {
		from := part[field]
		for _, other := range fields {
			if part[other] == from {
				part[other] = part[list[0]]
			}
		}
	}
	return list
}

func (m *maker) sum(fields []string) string {
	text := m.pick("0", "p1", "1")
	if len(fields) > 0 {
		text = m.pick("0", "0", "0", "1")
	}
	for _, field := range fields {
		text += m.pick(" + ", " - ") + m.pick("", "", "2 * ", "p0 * ", "(p1 + 1) * ", "1 / 3 * ", "(p0 - p2) * ") + field
	}
	return text
}

// operation is one of a form.
func (m *maker) operation(f api.Form) operation {
	field := f.Fields[m.Intn(len(f.Fields))].Name
	place := strconv.Itoa(m.Intn(3))
	switch m.Intn(12) {
	case 0:
		return operation{"edit", m.pick("x", "r0", "s0", ""), whole(1), true}
	case 1:
		return operation{"edit", field, slices.Concat(roughNumbers(), largeNumbers())[m.Intn(31)], true}
	case 2, 3:
		return operationOf("pin " + field)
	case 4, 5:
		return operationOf("unpin " + field)
	case 6, 7:
		return operationOf("switch s" + place + m.pick(" on", " off"))
	case 8:
		return operationOf("param p" + place + " " + m.number())
	}
	return operationOf("edit " + field + " " + m.number())
}

// P16.7: over scripts of many changes what comes Is a document that nothing
// beats, and is what the document says; what is refused changes nothing.
func TestScripts(t *testing.T) {
	m := &maker{rand.New(rand.NewSource(161))}
	told := map[string]int{}
	for range 500 {
		f := m.form()
		d, err := expectSaid(t, f, doc.Doc{}, operationOf("new"))
		told["new "+errorWord(err)]++
		if err != api.OK {
			continue
		}
		for range 24 {
			o := m.operation(f)
			now, err := expectSaid(t, f, d, o)
			told[o.word+" "+errorWord(err)]++
			if err != api.OK {
				continue
			}
			if doc.Same(now, d) != alikeDocs(now, d) {
				t.Fatal("Same is not what is written alike:", now, d)
			}
			d = now
		}
	}
	ok := errorWord(api.OK)
	for kind, least := range map[string]int{
		"new " + ok: 200, "new forced": 50, "new cycle": 4, "new zero": 10, "edit " + ok: 700, "edit blocked": 500, "edit name": 300, "edit large": 300, "pin " + ok: 300, "pin arg": 300, "unpin " + ok: 200, "unpin none": 300, "switch " + ok: 300, "switch forced": 20, "switch zero": 3, "switch cycle": 2, "param " + ok: 300, "param forced": 3, "param zero": 4,
	} {
		if told[kind] < least {
			t.Error("too few of a kind:", kind, told[kind])
		}
	}
}

// P16.2: documents in which something is not as it is to be, held against what
// the document says.
func TestBrokenDocuments(t *testing.T) {
	m := &maker{rand.New(rand.NewSource(162))}
	good, bad := 0, 0
	for range 700 {
		f := m.form()
		d, _, err := doc.New(f)
		if err != api.OK {
			d = blank(f)
		}
		for range 8 {
			if now, _, err := m.operation(f).do(f, d); err == api.OK {
				d = now
			}
		}
		for range 6 {
			other := copyOf(d)
			for range 1 + m.Intn(2) {
				m.spoil(&other)
			}
			expectIs(t, f, other, isDocument(f, other))
			if isDocument(f, other) {
				good++
				expectBest(t, f, other)
			} else {
				bad++
			}
		}
	}
	if good < 300 || bad < 2000 {
		t.Error("too few of a kind:", good, bad)
	}
}

// spoil changes one thing of a document.
func (m *maker) spoil(d *doc.Doc) {
	i := m.Intn(len(d.Vals))
	switch m.Intn(8) {
	case 0:
		d.Vals[i] = number(m.number())
	case 1:
		d.Filled[i] = !d.Filled[i]
	case 2:
		d.Pins[i] = doc.Pin{On: m.Intn(4) > 0, Tells: m.Intn(2) > 0, Val: d.Vals[m.Intn(len(d.Vals))]}
	case 3:
		d.Pins[i] = doc.Pin{Val: whole(0)}
	case 4:
		d.On[m.Intn(3)] = m.Intn(2) > 0
	case 5:
		d.Params[m.Intn(3)] = number(m.number())
	default:
		if len(d.Outs) > 0 {
			d.Outs[m.Intn(len(d.Outs))] = m.Intn(len(d.Vals)+2) - 1
		}
	}
}

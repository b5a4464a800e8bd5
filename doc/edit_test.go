package doc_test

import (
	"slices"
	"testing"

	"pantograph/api"
)

// P16.4: what an edit makes of a document.
func TestEdit(t *testing.T) {
	for _, x := range []struct {
		form  string
		steps []string
	}{
		{"a", []string{"new", "", "edit a 3", "a 3 filled", "edit a 3", "a 3 filled", "edit a -1/3", "a -1/3 filled", "edit a 0", "a 0 filled"}},
		{"a b", []string{"new", "", "edit b 0", "b 0 filled", "edit a 2", "a 2 filled, b 0 filled"}},
		{"a b; required r : a + b = 10", []string{"new", "a 10, r a", "edit b 3", "a 7, b 3 filled, r a", "edit a 4", "a 4 filled, b 6 filled, r b", "edit a 4", "a 4 filled, b 6 filled, r b", "edit b 1/3", "a 29/3 filled, b 1/3 filled, r a", "edit b 1/3", "a 29/3 filled, b 1/3 filled, r a"}},
		{"a b; required r : a + b = 10", []string{"new", "a 10, r a", "edit a 10", "a 10 filled, r b"}},
		// Along chains and trees; who is apart stays.
		{"a b c d; required q : b = 2 * a; required r : c = 3 * b", []string{"new", "q a, r b", "edit a 1", "a 1 filled, b 2, c 6, q b, r c", "edit d 5", "a 1 filled, b 2, c 6, d 5 filled, q b, r c", "edit c 3", "a 1/2 filled, b 1, c 3 filled, d 5 filled, q a, r b", "edit b 2", "a 1 filled, b 2 filled, c 6 filled, d 5 filled, q a, r c"}},
		{"a b c; required r : a + b + c = 6", []string{"new", "a 6, r a", "edit a 1", "a 1 filled, b 5, r b", "edit b 2", "a 4 filled, b 2 filled, r a", "edit c 3", "a 1 filled, b 2 filled, c 3 filled, r a"}},
		// Blocked by what is required, by what is strong; the value makes no
		// difference.
		{"a b; required q : a = 5; required r : b = 2 * a", []string{"new", "a 5, b 10, q a, r b", "edit a 3", "!blocked a", "edit a 5", "!blocked a", "edit b 3", "!blocked b", "edit b 10", "!blocked b"}},
		{"a b; strong q : a = 5; required r : b = 2 * a", []string{"new", "a 5, b 10, q a, r b", "edit a 3", "!blocked a", "edit a 5", "!blocked a", "edit b 3", "!blocked b"}},
		{"a b c; strong q : a = 5; required r : a + b = c", []string{"new", "a 5, b -5, q a, r b", "edit c 7", "a 5, b 2, c 7 filled, q a, r b", "edit b 1", "a 5, b 1 filled, c 6 filled, q a, r c", "edit a 4", "!blocked a"}},
		{"a b; strong r : a = b", []string{"new", "r a", "edit b 2", "a 2, b 2 filled, r a", "edit a 1", "a 1 filled, b 1 filled, r b"}},
		// Blocked by pins.
		{"a b; required r : a + b = 10", []string{"new", "a 10, r a", "pin a", "a 10 pin tells, r b", "edit a 3", "!blocked a", "edit a 10", "!blocked a", "edit b 3", "!blocked b", "pin b", "a 10 pin tells, b 0 pin, r b", "edit b 0", "!blocked b", "unpin a", "a 10, b 0 pin tells, r a", "edit a 3", "!blocked a", "unpin b", "a 10, r a", "edit a 3", "a 3 filled, b 7, r b"}},
		{"a b c; medium r : a + b = c", []string{"new", "r a", "pin c", "c 0 pin tells, r a", "edit a 3", "a 3 filled, b -3, c 0 pin tells, r b", "pin b", "a 3 filled, b -3 pin tells, c 0 pin tells, r a", "edit a 7", "a 3 filled, b -3 pin tells, c 0 pin tells, r a", "edit b 7", "!blocked b"}},
		// What is weaker takes it back in the second phase.
		{"a; weak r : a = 5", []string{"new", "a 5, r a", "edit a 3", "a 5 filled, r a", "edit a 5", "a 5 filled, r a"}},
		{"a; medium r : a = 5; weak q : a = 6", []string{"new", "a 5, r a", "edit a 3", "a 5 filled, r a"}},
		{"a b; required r : b = 2 * a; weak q : a = 1", []string{"new", "a 1, b 2, r b, q a", "edit b 10", "a 1, b 2 filled, r b, q a", "edit a 7", "a 1 filled, b 2 filled, r b, q a"}},
		{"a b c; required r : a + b + c = 6; weak q : a = 1", []string{"new", "a 1, b 5, r b, q a", "edit c 2", "a 1, b 3, c 2 filled, r b, q a", "edit b 2", "a 1, b 2 filled, c 3 filled, r c, q a", "edit a 2", "a 1 filled, b 2 filled, c 3 filled, r c, q a"}},
		{"a b; weak r : a = b", []string{"new", "r a", "edit a 3", "a 3 filled, b 3, r b", "edit b 4", "a 4 filled, b 4 filled, r a"}},
		// A weaker one that tells neither before nor behind.
		{"a; strong q : a = 1; weak r : a = 2; weak p : 0 = 1", []string{"new", "a 1, q a", "edit a 2", "!blocked a"}},
		// A weaker one holds behind the first phase, but another one takes it back.
		{"a; weak q : a = 1; weak r : a = 2", []string{"new", "a 1, q a", "edit a 2", "a 1 filled, q a"}},
		// No such field: what is named otherwise, or is none.
		{"a b; switch s on; param p 1; page two; check k : a = b; weak r : a = b", []string{"new", "r a", "edit c 1", "!name", "edit A 1", "!name", "edit r 1", "!name", "edit s 1", "!name", "edit p 1", "!name", "edit k 1", "!name", "edit sheet 1", "!name", "edit two 1", "!name", "edit ab 1", "!name", "edit b 2", "a 2, b 2 filled, r a"}},
	} {
		play(t, form(x.form), x.steps...)
	}
}

// P16.4: no name at all, and names of bytes of any kind.
func TestNamesThatAreNone(t *testing.T) {
	f := form("a b; switch s on; param p 1; required r : a = b")
	d := document(f, "r a")
	for _, name := range []string{"", " ", "a ", " a", "a\x00", "\xff", "aa", "A", "a\n", string(make([]byte, 1<<16))} {
		for _, word := range []string{"edit", "pin", "unpin", "param", "switch"} {
			for _, val := range []api.Rat{whole(1), {}, largeNumbers()[0]} {
				expectRefused(t, f, d, operation{word, name, val, true}, api.ErrName)
				expectRefused(t, f, d, operation{word, name, val, false}, api.ErrName)
			}
		}
	}
}

// P16.4, P16.5: numbers that are not normal, or Large, of an edit and of a
// param; those that are neither.
func TestNumbersThatAreHandedIn(t *testing.T) {
	f := form("a b; param p 1; weak r : b = 1")
	d := document(f, "a 2 pin tells, b 1, r b")
	for _, a := range slices.Concat(roughNumbers(), largeNumbers()) {
		for _, name := range []string{"a", "b"} {
			expectRefused(t, f, d, operation{word: "edit", name: name, val: a}, api.ErrLarge, name)
			expectSaid(t, f, d, operation{word: "edit", name: name, val: a})
		}
		expectRefused(t, f, d, operation{word: "param", name: "p", val: a}, api.ErrLarge, "p")
		expectSaid(t, f, d, operation{word: "param", name: "p", val: a})
		expectRefused(t, f, d, operation{word: "edit", name: "p", val: a}, api.ErrName)
		expectRefused(t, f, d, operation{word: "param", name: "a", val: a}, api.ErrName)
	}
	d = document(f, "a 2, b 1, r b")
	for _, a := range fineNumbers() {
		got, _ := expectSaid(t, f, d, operation{word: "edit", name: "a", val: a})
		if !got.Filled[0] || !alike(got.Vals[0], a) {
			t.Error("an edit is not made:", a, got)
		}
		got, _ = expectSaid(t, f, d, operation{word: "param", name: "p", val: a})
		if !alike(got.Params[0], a) {
			t.Error("a param is not given:", a, got)
		}
	}
}

// P16.4: errors of the first and of the second phase, with the rule's name;
// behind an error all is as it was.
func TestErrorsOfPhases(t *testing.T) {
	f := grown(form("a b c; param p 1; required q : b = c; required r : a = b * p"), "^300")
	play(t, f, "new", "q b, r a", "edit c ^300", "!large r", "edit b ^300", "!large r", "edit a ^300", "a ^300 filled, b 1, c 1, q c, r b", "edit a 1/^300", "!large r", "edit c 1/^300", "a 1 filled, b 1/^300, c 1/^300 filled, q b, r a", "edit b ^212", "a ^300*^212 filled, b ^212 filled, c ^212 filled, q c, r a", "edit b ^213", "!large r", "edit c 2", "a 2*^300 filled, b 2 filled, c 2 filled, q b, r a")
	f = grown(form("a b c; param p 1; required r : a = b * p; required q : b = c * p"), "^300")
	play(t, f, "new", "r a, q b", "edit c 1", "!large r", "edit b 1", "a ^300, b 1 filled, c 1/^300, r a, q c", "edit a 1", "!large q", "edit a ^300*^211", "a ^300*^211 filled, b ^211 filled, c ^211*1/^300, r b, q c")
	// The second phase: q stands ahead of r, and takes a where the edit was.
	f = grown(form("a; switch s off; param p 1; weak q when s : a / p = p; weak r : a = 1"), "^300")
	play(t, f, "new", "a 1, r a", "switch s on", "a 1, r a, s on", "edit a 2", "!large q", "edit a 1", "!large q", "switch s off", "a 1, r a", "edit a 2", "a 1 filled, r a", "switch s on", "a 1 filled, r a, s on", "param p 3", "a 1 filled, r a, s on, p 3", "edit a 2", "a 9 filled, q a, s on, p 3")
	// A pin that goes lets a rule tell what is too large.
	f = form("a b; param p 1; weak r : a = b * p")
	play(t, f, "new", "r a", "edit b ^300", "a ^300, b ^300 filled, r a", "pin a", "a ^300 pin tells, b ^300 filled, r b", "pin b", "a ^300 pin tells, b ^300 filled pin tells", "param p ^300", "a ^300 pin tells, b ^300 filled pin tells, p ^300", "unpin a", "!large r", "unpin b", "a ^300 pin tells, b 1 filled, r b, p ^300")
}

// P16.4: what names a document's error is the rule's own, wherever it stands
// among those that are active and those that are not.
func TestWhoIsNamed(t *testing.T) {
	f := form("a b c; switch s off; switch y on; param p 1; weak x1 when s : a = 1; required x2 when y : c = 1; weak x3 when s : a = 2; required x4 : a = b; weak x5 : 0 = 1; required x6 when s : b = c; required x7 : p * b = p")
	play(t, f, "new", "c 1, a 1, b 1, x2 c, x4 a, x7 b", "edit b 1", "!blocked b", "switch s on", "!forced x6", "switch y off", "c 1, a 1, b 1, x4 a, x7 b, y off", "switch s on", "c 1, a 1, b 1, x4 a, x6 c, x7 b, y off, s on", "switch y on", "!forced x2", "pin c", "c 1 pin, a 1, b 1, x4 a, x6 c, x7 b, y off, s on", "edit c 1", "!blocked c")
}

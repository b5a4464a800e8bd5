package hist_test

import (
	"math/rand"
	"slices"
	"strings"
	"testing"

	"pantograph/hist"
)

// P17.1: some calls, and what is behind them.
func TestCalls(t *testing.T) {
	for _, x := range []struct{ before, now, push, undo, undone, redo, redone string }{
		{"|", "b", "b|", "", "", "", ""}, {"a|", "b", "a b|", "|b", "a", "", ""}, {"|a", "b", "b|", "", "", "b|", "a"}, {"a|b", "c", "a c|", "|b c", "a", "a c|", "b"}, {"a b|", "c", "a b c|", "a|c", "b", "", ""}, {"|a b", "c", "c|", "", "", "c|a", "b"}, {"a b c|d e f", "g", "a b c g|", "a b|d e f g", "c", "a b c g|d e", "f"},
		// Empty texts, and texts that are alike.
		{"-|", "", "- -|", "|-", "", "", ""}, {"|-", "", "-|", "", "", "-|", ""}, {"- a -|- b -", "", "- a - -|", "- a|- b - -", "", "- a - -|- b", ""}, {"a a a|a a", "a", "a a a a|", "a a|a a a", "a", "a a a a|a", "a"}, {"a|a", "", "a -|", "|a -", "a", "a -|", "a"},
		{"x y|y x", "x", "x y x|", "x|y x x", "y", "x y x|y", "x"},
	} {
		h, now := history(x.before), x.now
		expectPush(t, h, now, history(x.push))
		if len(h.Past) == 0 {
			expectNoUndo(t, h, now)
		} else {
			expectUndo(t, h, now, history(x.undo), x.undone)
			expectRedo(t, history(x.undo), x.undone, h, now)
		}
		if len(h.Future) == 0 {
			expectNoRedo(t, h, now)
		} else {
			expectRedo(t, h, now, history(x.redo), x.redone)
			expectUndo(t, history(x.redo), x.redone, h, now)
		}
	}
}

// P17.1: no Past, no Future, nil and empty.
func TestNothing(t *testing.T) {
	for _, h := range empties() {
		for _, now := range []string{"", "a", strings.Repeat("a", 1<<20)} {
			expectNoUndo(t, h, now)
			expectNoRedo(t, h, now)
			expectPush(t, h, now, hist.Hist{Past: []string{now}})
			for _, other := range []hist.Hist{{Past: []string{"x", "y"}, Future: h.Future}, {Past: []string{"x", "y"}}} {
				expectNoRedo(t, other, now)
				expectUndo(t, other, now, hist.Hist{Past: []string{"x"}, Future: []string{now}}, "y")
			}
			for _, other := range []hist.Hist{{Past: h.Past, Future: []string{"x", "y"}}, {Future: []string{"x", "y"}}} {
				expectNoUndo(t, other, now)
				expectRedo(t, other, now, hist.Hist{Past: []string{now}, Future: []string{"x"}}, "y")
				expectPush(t, other, now, hist.Hist{Past: []string{now}})
			}
		}
	}
}

// P17.1: Push onto a Past that is full, and onto one that has more than it may.
func TestFullPast(t *testing.T) {
	for _, future := range [][]string{nil, numbered(-3, 0), numbered(-50, 0)} {
		for count := range 100 {
			h := hist.Hist{Past: numbered(0, count), Future: future}
			expectPush(t, h, "now", hist.Hist{Past: append(numbered(max(0, count-31), count), "now")})
		}
		for _, count := range []int{1000, 1 << 16} {
			h := hist.Hist{Past: numbered(0, count), Future: future}
			expectPush(t, h, "", hist.Hist{Past: append(numbered(count-31, count), "")})
		}
	}
	// One behind the other, from none on.
	var h hist.Hist
	for i := range 200 {
		h = hist.Push(h, numbered(i, i+1)[0])
		if want := numbered(max(0, i-31), i+1); !slices.Equal(h.Past, want) || len(h.Future) > 0 || !hist.Is(h) {
			t.Fatal("behind many calls Past is", h.Past, "not", want)
		}
	}
	same := hist.Hist{Past: slices.Repeat([]string{"a"}, 32)}
	expectPush(t, same, "a", same)
	expectPush(t, same, "b", hist.Hist{Past: append(slices.Repeat([]string{"a"}, 31), "b")})
}

// P17.1: Undo and Redo of full histories, and of those that have more than they
// may: nothing goes but the one that is told.
func TestUndoAndRedoOfFullOnes(t *testing.T) {
	for _, past := range []int{1, 2, 31, 32, 33, 40, 1000} {
		for _, future := range []int{0, 1, 31, 32, 33, 1000} {
			h := hist.Hist{Past: numbered(0, past), Future: numbered(5000, 5000+future)}
			want := hist.Hist{Past: numbered(0, past-1), Future: append(numbered(5000, 5000+future), "now")}
			expectUndo(t, h, "now", want, numbered(past-1, past)[0])
			expectRedo(t, want, numbered(past-1, past)[0], h, "now")
			// The other way round.
			h, want = hist.Hist{Past: h.Future, Future: h.Past}, hist.Hist{Past: want.Future, Future: want.Past}
			expectRedo(t, h, "now", want, numbered(past-1, past)[0])
			expectUndo(t, want, numbered(past-1, past)[0], h, "now")
		}
	}
	// All the way back, and forth.
	h, now := hist.Hist{Past: numbered(0, 32)}, "32"
	for i := 31; i >= 0; i-- {
		before := hist.Hist{Past: numbered(0, i+1), Future: backwards(numbered(i+2, 33))}
		want := hist.Hist{Past: numbered(0, i), Future: backwards(numbered(i+1, 33))}
		expectUndo(t, before, now, want, numbered(i, i+1)[0])
		h, now, _ = hist.Undo(h, now)
		if !isAlike(h, want) {
			t.Fatal("behind many calls the history is", h, "not", want)
		}
	}
	expectNoUndo(t, h, now)
	for i := 1; i < 33; i++ {
		h, now, _ = hist.Redo(h, now)
		if want := (hist.Hist{Past: numbered(0, i), Future: backwards(numbered(i+1, 33))}); !isAlike(h, want) || now != numbered(i, i+1)[0] {
			t.Fatal("behind many calls the history is", h, "not", want)
		}
	}
	expectNoRedo(t, h, now)
	expectIs(t, h, true)
}

func backwards(list []string) []string {
	slices.Reverse(list)
	return list
}

// P17.2: Past and Future have at most 32 together.
func TestIs(t *testing.T) {
	for _, h := range empties() {
		expectIs(t, h, true)
	}
	for past := range 70 {
		for future := range 70 {
			expectIs(t, hist.Hist{Past: numbered(0, past), Future: numbered(0, future)}, past+future <= 32)
		}
	}
	expectIs(t, hist.Hist{Past: make([]string, 32)}, true)
	expectIs(t, hist.Hist{Future: make([]string, 32)}, true)
	expectIs(t, hist.Hist{Past: make([]string, 16), Future: make([]string, 16)}, true)
	expectIs(t, hist.Hist{Past: make([]string, 33)}, false)
	expectIs(t, hist.Hist{Future: make([]string, 33)}, false)
	expectIs(t, hist.Hist{Past: make([]string, 16), Future: make([]string, 17)}, false)
	expectIs(t, hist.Hist{Past: make([]string, 1<<20)}, false)
	expectIs(t, hist.Hist{Past: make([]string, 1<<20), Future: make([]string, 1<<20)}, false)
	expectIs(t, hist.Hist{Past: []string{strings.Repeat("a", 1<<20)}}, true)
}

// P17.2: Same goes text by text, of Past and of Future.
func TestSame(t *testing.T) {
	for _, a := range empties() {
		for _, b := range empties() {
			expectSame(t, a, b, true)
		}
		for _, text := range []string{"a|", "|a", "-|", "|-", "a|a"} {
			expectSame(t, a, history(text), false)
		}
	}
	all := []string{"a|", "|a", "-|", "|-", "a b|", "a|b", "|a b", "b a|", "b|a", "|b a", "ab|", "|ab", "a b|c", "a|b c", "a b c|", "a b|d", "a c|c", "b b|c", "a -|", "a|-", "- a|", "-|a", "-|-", "- -|", "a a|", "a a|a", "a|a a", "a|a", "A|", "a b c d|e f g h", "a b c d|e f g x", "a b c x|e f g h", "a b c|d e f g h"}
	for i, one := range all {
		for k, other := range all {
			expectSame(t, history(one), history(other), i == k)
		}
	}
	long := hist.Hist{Past: numbered(0, 1000), Future: numbered(0, 1000)}
	expectSame(t, long, hist.Hist{Past: numbered(0, 1000), Future: numbered(0, 1000)}, true)
	expectSame(t, long, hist.Hist{Past: numbered(0, 1000), Future: numbered(0, 999)}, false)
	expectSame(t, long, hist.Hist{Past: numbered(0, 999), Future: numbered(0, 1000)}, false)
	expectSame(t, history("\x00|"), history("\x00\x00|"), false)
	expectSame(t, history("\xff|"), history("\xfe|"), false)
}

// P17.1, P17.3: many rows of calls, held against a row of all texts and a place
// in it; Redo behind Undo is as it was, and Undo behind Redo.
func TestRowsOfCalls(t *testing.T) {
	r := rand.New(rand.NewSource(171))
	undone, redone, full, stuck := 0, 0, 0, 0
	for range 300 {
		all, at := []string{"first"}, 0
		var h hist.Hist
		for i := range 120 {
			expectBothWays(t, h, word(r))
			now := all[at]
			switch r.Intn(5) {
			case 0, 1:
				before, last, ok := h, "", false
				h, last, ok = hist.Undo(h, now)
				if ok != (at > 0) || ok && last != all[at-1] || !ok && !isAlike(h, before) {
					t.Fatal("Undo is", h, last, ok, "at", at, "of", all)
				}
				if ok {
					at--
					undone++
				} else {
					stuck++
				}
			case 2:
				before, last, ok := h, "", false
				h, last, ok = hist.Redo(h, now)
				if ok != (at < len(all)-1) || ok && last != all[at+1] || !ok && !isAlike(h, before) {
					t.Fatal("Redo is", h, last, ok, "at", at, "of", all)
				}
				if ok {
					at++
					redone++
				}
			default:
				h = hist.Push(h, now)
				all = append(all[:at+1:at+1], word(r)+numbered(i, i+1)[0])
				at++
				if at > 32 {
					all, at = all[1:], 32
					full++
				}
			}
			if want := (hist.Hist{Past: all[:at], Future: backwards(slices.Clone(all[at+1:]))}); !isAlike(h, want) || !hist.Same(h, want) || !hist.Is(h) {
				t.Fatal("the history is", h, "not", want)
			}
		}
	}
	if undone < 5000 || redone < 2000 || full < 10 || stuck < 500 {
		t.Error("too few of a kind:", undone, redone, full, stuck)
	}
}

// expectBothWays: Redo behind Undo is as it was, and Undo behind Redo.
func expectBothWays(t *testing.T, h hist.Hist, now string) {
	t.Helper()
	if back, last, ok := hist.Undo(h, now); ok {
		expectRedo(t, back, last, h, now)
	} else {
		expectNoUndo(t, h, now)
	}
	if forth, last, ok := hist.Redo(h, now); ok {
		expectUndo(t, forth, last, h, now)
	} else {
		expectNoRedo(t, h, now)
	}
}

// P17.3: of any history, also of those that have more than they may.
func TestBothWays(t *testing.T) {
	r := rand.New(rand.NewSource(172))
	for range 3000 {
		expectBothWays(t, some(r), word(r))
	}
}

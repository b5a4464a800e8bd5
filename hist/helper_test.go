package hist_test

import (
	"math/rand"
	"slices"
	"strconv"
	"strings"
	"testing"

	"pantograph/hist"
)

// history is one of a text: Past, a |, Future, texts with blanks between; a -
// stands for one that is empty.
func history(text string) hist.Hist {
	past, future, _ := strings.Cut(text, "|")
	return hist.Hist{Past: texts(past), Future: texts(future)}
}

func texts(text string) []string {
	var list []string
	for _, word := range strings.Fields(text) {
		list = append(list, strings.Trim(word, "-"))
	}
	return list
}

// numbered are texts of numbers, from one on to the one ahead of another.
func numbered(from, to int) []string {
	var list []string
	for i := from; i < to; i++ {
		list = append(list, strconv.Itoa(i))
	}
	return list
}

func isAlike(a, b hist.Hist) bool {
	return slices.Equal(a.Past, b.Past) && slices.Equal(a.Future, b.Future)
}

func expectPush(t *testing.T, h hist.Hist, now string, want hist.Hist) {
	t.Helper()
	if got := hist.Push(h, now); !isAlike(got, want) {
		t.Fatalf("Push of %q onto %q is %q, not %q", now, h, got, want)
	}
}

func expectUndo(t *testing.T, h hist.Hist, now string, want hist.Hist, text string) {
	t.Helper()
	if got, last, ok := hist.Undo(h, now); !ok || last != text || !isAlike(got, want) {
		t.Fatalf("Undo of %q at %q is %q, %q, %v, not %q, %q", h, now, got, last, ok, want, text)
	}
}

func expectRedo(t *testing.T, h hist.Hist, now string, want hist.Hist, text string) {
	t.Helper()
	if got, last, ok := hist.Redo(h, now); !ok || last != text || !isAlike(got, want) {
		t.Fatalf("Redo of %q at %q is %q, %q, %v, not %q, %q", h, now, got, last, ok, want, text)
	}
}

func expectNoUndo(t *testing.T, h hist.Hist, now string) {
	t.Helper()
	if got, last, ok := hist.Undo(h, now); ok || last != "" || !isAlike(got, h) {
		t.Fatalf("Undo of %q at %q is %q, %q, %v", h, now, got, last, ok)
	}
}

func expectNoRedo(t *testing.T, h hist.Hist, now string) {
	t.Helper()
	if got, last, ok := hist.Redo(h, now); ok || last != "" || !isAlike(got, h) {
		t.Fatalf("Redo of %q at %q is %q, %q, %v", h, now, got, last, ok)
	}
}

func expectIs(t *testing.T, h hist.Hist, want bool) {
	t.Helper()
	if hist.Is(h) != want {
		t.Fatalf("Is is not %v of %v and %v texts", want, len(h.Past), len(h.Future))
	}
}

func expectSame(t *testing.T, a, b hist.Hist, want bool) {
	t.Helper()
	if hist.Same(a, b) != want || hist.Same(b, a) != want || !hist.Same(a, a) || !hist.Same(b, b) {
		t.Fatalf("Same is not %v: %q, %q", want, a, b)
	}
}

// empties are histories of nothing.
func empties() []hist.Hist {
	room := make([]string, 0, 9)
	return []hist.Hist{{}, {Past: []string{}}, {Future: []string{}}, {Past: []string{}, Future: []string{}}, {Past: room, Future: room}, {Past: numbered(0, 40)[:0], Future: numbered(0, 40)[:0]}}
}

// some is a history at random, of texts some of which are alike.
func some(r *rand.Rand) hist.Hist {
	most := []int{3, 10, 20, 40}[r.Intn(4)]
	var h hist.Hist
	for range r.Intn(most) {
		h.Past = append(h.Past, word(r))
	}
	for range r.Intn(most) {
		h.Future = append(h.Future, word(r))
	}
	return h
}

func word(r *rand.Rand) string {
	return []string{"", "a", "b", "ab", "\x00", "\xff\xfe", strings.Repeat("long\n", 200)}[r.Intn(7)]
}

package hist_test

import (
	"fmt"
	"math/rand"
	"slices"
	"strings"
	"testing"
	"unsafe"

	"pantograph/hist"
)

// handed is what the calls are handed in.
type handed struct {
	H, Other hist.Hist
	Now      string
}

// answered is what they answer.
type answered struct {
	Pushed, Undone, Redone hist.Hist
	Undo, Redo             string
	CanUndo, CanRedo       bool
	Is, Same               bool
}

func ask(x *handed) *answered {
	a := &answered{Pushed: hist.Push(x.H, x.Now), Is: hist.Is(x.H), Same: hist.Same(x.H, x.Other)}
	a.Undone, a.Undo, a.CanUndo = hist.Undo(x.H, x.Now)
	a.Redone, a.Redo, a.CanRedo = hist.Redo(x.H, x.Now)
	return a
}

// rowsOf are all rows of what is answered, and all texts by themselves.
func (a *answered) rowsOf() [][]string {
	return [][]string{a.Pushed.Past, a.Pushed.Future, a.Undone.Past, a.Undone.Future, a.Redone.Past, a.Redone.Future, {a.Undo}, {a.Redo}}
}

func (x *handed) rowsOf() [][]string {
	return [][]string{x.H.Past, x.H.Future, x.Other.Past, x.Other.Future, {x.Now}}
}

// told is all of a value as a text of its own, rows without their room.
func told(x any) string { return fmt.Sprintf("%+q", x) }

// loan is a text in memory that can be changed.
func loan(s string) string { return strings.Clone(s) }

// roomyRow is a row of texts on loan with room, in which there are others.
func roomyRow(row []string) []string {
	list := make([]string, 0, len(row)+3)
	for _, text := range row {
		list = append(list, loan(text))
	}
	list = append(list, loan("spare"), loan("room"), "")
	return list[:len(row)]
}

func roomy(x handed) *handed {
	return &handed{hist.Hist{Past: roomyRow(x.H.Past), Future: roomyRow(x.H.Future)}, hist.Hist{Past: roomyRow(x.Other.Past), Future: roomyRow(x.Other.Future)}, loan(x.Now)}
}

// unfolded is a copy of all that can be reached.
func unfolded(x *handed) [][]string {
	var rows [][]string
	for _, row := range x.rowsOf() {
		var list []string
		for _, text := range row[:cap(row)] {
			list = append(list, strings.Clone(text))
		}
		rows = append(rows, list)
	}
	return rows
}

// spoil overwrites all that can be reached, texts only if they are on loan.
func spoil(rows [][]string, isLoan bool) {
	for _, row := range rows {
		row = row[:cap(row)]
		for i, text := range row {
			bytes := unsafe.Slice(unsafe.StringData(text), len(text))
			for k := range bytes {
				if isLoan {
					bytes[k] = '?'
				}
			}
			row[i] = "spoilt"
		}
	}
}

// sharesMemory tells whether two rows, their room too, or two texts have
// memory in common.
func sharesMemory(lists ...[][]string) bool {
	var spans [][2]uintptr
	add := func(first unsafe.Pointer, size uintptr) {
		if size > 0 {
			spans = append(spans, [2]uintptr{uintptr(first), uintptr(first) + size})
		}
	}
	for _, rows := range lists {
		for _, row := range rows {
			add(unsafe.Pointer(unsafe.SliceData(row)), uintptr(cap(row))*unsafe.Sizeof(""))
			for _, text := range row[:cap(row)] {
				add(unsafe.Pointer(unsafe.StringData(text)), uintptr(len(text)))
			}
		}
	}
	slices.SortFunc(spans, func(a, b [2]uintptr) int { return int(a[0]) - int(b[0]) })
	for i := range max(len(spans), 1) - 1 {
		if spans[i][1] > spans[i+1][0] {
			return true
		}
	}
	return false
}

// offers are what the tests of memory hand in.
func offers() []handed {
	var list []handed
	for _, h := range append(empties(), history("a|"), history("|a"), history("a b c|d e"), history("- a -|- b"), history("a a|a")) {
		for _, now := range []string{"", "a", "now"} {
			list = append(list, handed{h, h, now}, handed{h, history("a|b"), now})
		}
	}
	for _, past := range []int{31, 32, 33, 60} {
		for _, future := range []int{0, 1, 33} {
			h := hist.Hist{Past: numbered(100, 100+past), Future: numbered(500, 500+future)}
			list = append(list, handed{h, h, "now"})
		}
	}
	r := rand.New(rand.NewSource(173))
	for range 300 {
		list = append(list, handed{some(r), some(r), word(r)})
	}
	return list
}

// P17.3: what is handed in is neither changed nor kept, nor what stands behind
// the end of a row.
func TestNothingIsChangedOrKept(t *testing.T) {
	for _, was := range offers() {
		want := told(ask(&was))
		x := roomy(was)
		before := unfolded(x)
		got := ask(x)
		if told(unfolded(x)) != told(before) {
			t.Fatal("what is handed in is changed:", told(was))
		}
		if told(got) != want {
			t.Fatal("what stands behind a row's end is read:", told(was), told(got), want)
		}
		spoil(x.rowsOf(), true)
		if told(got) != want {
			t.Fatal("what is answered is what was handed in:", told(was), told(got), want)
		}
		spoil(got.rowsOf(), false)
		if again := told(ask(roomy(was))); again != want {
			t.Fatal("a call answers something else the second time:", told(was), again, want)
		}
	}
}

// W6: no two rows or texts of an answer share memory, nor those of two answers,
// nor with what is handed in.
func TestAnswersAreNewMemory(t *testing.T) {
	for _, was := range offers() {
		x := roomy(was)
		if sharesMemory(x.rowsOf(), ask(x).rowsOf(), ask(x).rowsOf()) {
			t.Fatal("two rows or texts share memory:", told(was))
		}
	}
}

// P17.3: both rows may be one, and each text may be another one, too.
func TestRowsThatAreOne(t *testing.T) {
	for _, was := range offers() {
		row := roomyRow(append(slices.Clone(was.H.Past), was.Now))
		x := &handed{H: hist.Hist{Past: row, Future: row[:len(row)/2]}, Other: hist.Hist{Past: row[len(row)/2:], Future: row}, Now: row[len(row)-1]}
		apart := roomy(*x)
		before := unfolded(x)
		got := ask(x)
		if want := told(ask(apart)); told(got) != want {
			t.Fatal("rows that are one:", told(*x), told(got), want)
		}
		if told(unfolded(x)) != told(before) {
			t.Fatal("rows that are one are changed:", told(was))
		}
		if sharesMemory(got.rowsOf(), [][]string{row}) {
			t.Fatal("an answer shares memory:", told(was))
		}
	}
}

// W7: an answer stays, whatever is called later.
func TestAnswersStay(t *testing.T) {
	var first []*answered
	var texts []string
	for _, x := range offers() {
		first = append(first, ask(&x))
		texts = append(texts, told(first[len(first)-1]))
	}
	for i, x := range offers() {
		if now := told(ask(&x)); told(first[i]) != texts[i] || now != texts[i] {
			t.Fatal("an answer changes later:", told(x))
		}
	}
}

// The tests above notice what is changed, and what shares memory.
func TestSharedMemoryIsNoticed(t *testing.T) {
	text, row := loan("text"), []string{"a", "b", "c"}
	for i, x := range []struct {
		shares bool
		lists  [][][]string
	}{
		{false, nil}, {false, [][][]string{{{text}}}}, {true, [][][]string{{{text}}, {{text}}}}, {true, [][][]string{{{text, text[3:]}}}}, {false, [][][]string{{{text[:2], text[2:]}}}}, {false, [][][]string{{{text}}, {{"text"}}}},
		{true, [][][]string{{row}, {row}}}, {true, [][][]string{{row[:1], row[1:]}}}, {false, [][][]string{{row[:1:1], row[1:]}}}, {false, [][][]string{{row[:0:0], row}}}, {true, [][][]string{{row[:0], row}}},
	} {
		if sharesMemory(x.lists...) != x.shares {
			t.Error("shared memory is not noticed, or noticed where there is none:", i)
		}
	}
	x := roomy(handed{history("a b|c"), history("d|e"), "now"})
	before := told(unfolded(x))
	for _, change := range []func(){
		func() { x.H.Past[0] = "x" }, func() { x.H.Past[:3][2] = "x" }, func() { x.H.Future[:2][1] = "x" }, func() { x.Other.Past[0] = "x" }, func() { x.Now = "x" }, func() { x.H.Past = x.H.Past[:1:1] },
	} {
		change()
		now := told(unfolded(x))
		if now == before {
			t.Error("a change is not noticed")
		}
		before = now
	}
}

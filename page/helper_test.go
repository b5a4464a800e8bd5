package page_test

import (
	"math/rand"
	"slices"
	"strings"
	"testing"

	"pantograph/api"
	"pantograph/page"
)

const (
	highest = 1<<63 - 1
	lowest  = -1 << 63
)

// form is one of two texts: pages with blanks between, each its name and,
// behind a ?, maybe a switch; switches with blanks between.
func form(pages, switches string) api.Form {
	var f api.Form
	for _, word := range strings.Fields(pages) {
		name, when, _ := strings.Cut(word, "?")
		f.Pages = append(f.Pages, api.Page{Name: name, When: when})
	}
	for _, name := range strings.Fields(switches) {
		f.Switches = append(f.Switches, api.Switch{Name: name})
	}
	return f
}

// states are which switches are on: 1, or 0.
func states(text string) []bool {
	var on []bool
	for _, digit := range text {
		on = append(on, digit == '1')
	}
	return on
}

// isRelevant asks all switches for the one of a page.
func isRelevant(f api.Form, on []bool, at int) bool {
	if f.Pages[at].When == "" {
		return true
	}
	for i, x := range f.Switches {
		if x.Name == f.Pages[at].When {
			return i < len(on) && on[i]
		}
	}
	return false
}

// relevantOf are the numbers of all pages that count.
func relevantOf(f api.Form, on []bool) []int {
	var list []int
	for i := range f.Pages {
		if isRelevant(f, on, i) {
			list = append(list, i)
		}
	}
	return list
}

// expectSaid holds all that is told of a form and a place against what the
// document says of it.
func expectSaid(t *testing.T, f api.Form, on []bool, at int) {
	t.Helper()
	list := relevantOf(f, on)
	expectRelevant(t, f, on, list)
	behind, isBehind := at, false
	for _, i := range slices.Backward(list) {
		if i > at {
			behind, isBehind = i, true
		}
	}
	ahead, isAhead := at, false
	for _, i := range list {
		if i < at {
			ahead, isAhead = i, true
		}
	}
	expectNext(t, f, on, at, behind, isBehind)
	expectBack(t, f, on, at, ahead, isAhead)
	fixed := 0
	switch {
	case slices.Contains(list, at):
		fixed = at
	case isAhead:
		fixed = ahead
	case isBehind:
		fixed = behind
	}
	expectFix(t, f, on, at, fixed)
	for _, name := range []string{"", "a", "b", "c", "s"} {
		expectJump(t, f, on, name)
	}
	for _, x := range f.Pages {
		expectJump(t, f, on, x.Name)
	}
}

func expectRelevant(t *testing.T, f api.Form, on []bool, want []int) {
	t.Helper()
	var list []int
	told := page.Relevant(f, on)
	for i, counts := range told {
		if counts {
			list = append(list, i)
		}
	}
	if !slices.Equal(list, want) || len(told) != len(f.Pages) {
		t.Fatalf("Relevant is %v, not %v: %v, %v", told, want, f, on)
	}
}

func expectNext(t *testing.T, f api.Form, on []bool, at, want int, isThere bool) {
	t.Helper()
	if got, ok := page.Next(f, on, at); got != want || ok != isThere {
		t.Fatalf("Next of %v is %v, %v, not %v, %v: %v, %v", at, got, ok, want, isThere, f, on)
	}
}

func expectBack(t *testing.T, f api.Form, on []bool, at, want int, isThere bool) {
	t.Helper()
	if got, ok := page.Back(f, on, at); got != want || ok != isThere {
		t.Fatalf("Back of %v is %v, %v, not %v, %v: %v, %v", at, got, ok, want, isThere, f, on)
	}
}

func expectFix(t *testing.T, f api.Form, on []bool, at, want int) {
	t.Helper()
	if got := page.Fix(f, on, at); got != want {
		t.Fatalf("Fix of %v is %v, not %v: %v, %v", at, got, want, f, on)
	}
}

// expectJump: the first page of a name, or an error.
func expectJump(t *testing.T, f api.Form, on []bool, name string) {
	t.Helper()
	want, err := -1, api.ErrName
	for i, x := range slices.Backward(f.Pages) {
		if x.Name != name {
			continue
		}
		if want, err = i, api.OK; !isRelevant(f, on, i) {
			want, err = -1, api.ErrNone
		}
	}
	if got, told := page.Jump(f, on, name); got != want || told != err {
		t.Fatalf("Jump to %q is %v, %v, not %v, %v: %v, %v", name, got, told, want, err, f, on)
	}
}

// places are some to be at, all of those of a form among them.
func places(f api.Form) []int {
	list := []int{lowest, lowest + 1, -1 << 32, -100, -2, highest, highest - 1, 1 << 32, 1<<32 + 1, 100}
	for at := -1; at < len(f.Pages)+3; at++ {
		list = append(list, at)
	}
	return list
}

// some is a form at random, and which switches are on.
func some(r *rand.Rand) (api.Form, []bool) {
	word := func(list ...string) string { return list[r.Intn(len(list))] }
	var f api.Form
	var on []bool
	for range r.Intn(7) {
		f.Pages = append(f.Pages, api.Page{Name: word("a", "b", "c", "d", "e", "f", ""), When: word("", "", "s", "t", "u", "v")})
	}
	for range r.Intn(5) {
		f.Switches = append(f.Switches, api.Switch{Name: word("s", "t", "u", ""), On: r.Intn(2) > 0})
	}
	for range r.Intn(6) {
		on = append(on, r.Intn(2) > 0)
	}
	return f, on
}

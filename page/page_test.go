package page_test

import (
	"math/rand"
	"reflect"
	"slices"
	"strconv"
	"strings"
	"testing"

	"pantograph/api"
	"pantograph/page"
)

// P18.1: which pages count.
func TestRelevant(t *testing.T) {
	for _, x := range []struct {
		pages, switches, on string
		want                []int
	}{
		{"", "", "", nil}, {"", "s", "1", nil}, {"a", "", "", []int{0}}, {"a b c", "", "", []int{0, 1, 2}}, {"a b c", "s", "0", []int{0, 1, 2}},
		// On, off, not known, without a place.
		{"a?s", "s", "1", []int{0}}, {"a?s", "s", "0", nil}, {"a?s", "", "", nil}, {"a?s", "", "1", nil}, {"a?s", "t", "1", nil}, {"a?s", "s", "", nil}, {"a?s", "t s", "1", nil}, {"a?s", "t s", "01", []int{0}}, {"a?s", "t s", "10", nil}, {"a?s", "s t", "10", []int{0}}, {"a?s b?t c?s", "s t", "1", []int{0, 2}}, {"a?s b?t c", "s t", "0", []int{2}}, {"a?s b?t c", "s t", "01", []int{1, 2}}, {"a?s b?t c", "s t", "11", []int{0, 1, 2}}, {"a?s b?t c", "s t", "00", []int{2}},
		// On is longer: the rest makes no difference.
		{"a?s b?t", "s t", "0111", []int{1}}, {"a?s b?t", "s t", "1011", []int{0}}, {"a b?s", "", "111", []int{0}},
		// Of two of one name the first counts.
		{"a?s", "s s", "10", []int{0}}, {"a?s", "s s", "01", nil}, {"a?s", "s s", "11", []int{0}}, {"a?s", "s s", "0", nil}, {"a?s", "s s", "1", []int{0}}, {"a?s b?t", "t s t s", "0110", []int{0}}, {"a?s b?t", "t s t s", "1001", []int{1}}, {"a?s", "t s s s", "0011", nil}, {"a?s", "t s s s", "0100", []int{0}},
		// Names by all their bytes; a page's own name makes no difference.
		{"a?s", "S", "1", nil}, {"a?s", "ss", "1", nil}, {"a?ss", "s", "1", nil}, {"s?t", "s t", "10", nil}, {"t?s", "s t", "10", []int{0}}, {"s", "s", "0", []int{0}},
	} {
		f := form(x.pages, x.switches)
		expectRelevant(t, f, states(x.on), x.want)
		for _, at := range places(f) {
			expectSaid(t, f, states(x.on), at)
		}
		// What the form says of its switches makes no difference.
		for i := range f.Switches {
			f.Switches[i].On = true
		}
		expectRelevant(t, f, states(x.on), x.want)
	}
	f := form("a b?s c", "s")
	for _, on := range [][]bool{nil, {}, states("0"), states("1")[:0], states("01")[:1]} {
		expectRelevant(t, f, on, []int{0, 2})
	}
	// A switch without a name is asked by no page.
	f.Switches = []api.Switch{{}, {Name: "s"}}
	expectRelevant(t, f, states("00"), []int{0, 2})
	expectRelevant(t, f, states("11"), []int{0, 1, 2})
	expectRelevant(t, f, nil, []int{0, 2})
}

// P18.1, P18.2: from each place on, and back; and where one is to be.
func TestPlaces(t *testing.T) {
	for _, x := range []struct {
		pages, on string
		at        int
		next      int // or at, if there is none
		back, fix int
	}{
		// All count.
		{"a b c", "", 0, 1, 0, 0}, {"a b c", "", 1, 2, 0, 1}, {"a b c", "", 2, 2, 1, 2}, {"a b c", "", 3, 3, 2, 2}, {"a b c", "", 4, 4, 2, 2}, {"a b c", "", -1, 0, -1, 0}, {"a b c", "", -2, 0, -2, 0}, {"a b c", "", highest, highest, 2, 2}, {"a b c", "", lowest, 0, lowest, 0}, {"a b c", "", highest - 1, highest - 1, 2, 2}, {"a b c", "", lowest + 1, 0, lowest + 1, 0}, {"a b c", "", 1 << 32, 1 << 32, 2, 2},
		// One page, or none.
		{"a", "", 0, 0, 0, 0}, {"a", "", -1, 0, -1, 0}, {"a", "", 1, 1, 0, 0}, {"a?s", "0", 0, 0, 0, 0}, {"a?s", "0", 1, 1, 1, 0}, {"a?s", "0", -1, -1, -1, 0}, {"a?s", "1", 1, 1, 0, 0}, {"", "", 0, 0, 0, 0}, {"", "", -1, -1, -1, 0}, {"", "", 5, 5, 5, 0}, {"", "", highest, highest, highest, 0}, {"", "", lowest, lowest, lowest, 0},
		// None, the first, the last, the midst.
		{"a?s b?s c?s", "0", 1, 1, 1, 0}, {"a?s b?s c?s", "0", -7, -7, -7, 0}, {"a?s b?s c?s", "0", 7, 7, 7, 0}, {"a b?s c?s", "0", 0, 0, 0, 0}, {"a b?s c?s", "0", 1, 1, 0, 0}, {"a b?s c?s", "0", 2, 2, 0, 0}, {"a b?s c?s", "0", 9, 9, 0, 0}, {"a?s b?s c", "0", 0, 2, 0, 2}, {"a?s b?s c", "0", 1, 2, 1, 2}, {"a?s b?s c", "0", 2, 2, 2, 2}, {"a?s b?s c", "0", 3, 3, 2, 2}, {"a?s b?s c", "0", -1, 2, -1, 2}, {"a?s b?s c", "0", lowest, 2, lowest, 2}, {"a?s b c?s", "0", 0, 1, 0, 1}, {"a?s b c?s", "0", 1, 1, 1, 1}, {"a?s b c?s", "0", 2, 2, 1, 1},
		// Several are passed over.
		{"a b?s c?s d", "0", 0, 3, 0, 0}, {"a b?s c?s d", "0", 1, 3, 0, 0}, {"a b?s c?s d", "0", 2, 3, 0, 0}, {"a b?s c?s d", "0", 3, 3, 0, 3}, {"a b?s c", "0", 0, 2, 0, 0}, {"a b?s c", "1", 0, 1, 0, 0}, {"a?s b c d?s e", "0", 3, 4, 2, 2}, {"a?s b c d?s e", "0", 0, 1, 0, 1}, {"a b c?s d e", "0", 2, 3, 1, 1}, {"a b c?s d e?s", "0", 4, 4, 3, 3},
	} {
		f, on := form(x.pages, "s"), states(x.on)
		expectNext(t, f, on, x.at, x.next, x.next != x.at)
		expectBack(t, f, on, x.at, x.back, x.back != x.at)
		expectFix(t, f, on, x.at, x.fix)
		expectSaid(t, f, on, x.at)
	}
}

// P18.2: pages by their names.
func TestJump(t *testing.T) {
	for _, x := range []struct {
		pages, on, name string
		want            int
		err             api.Errno
	}{
		{"a b c", "", "a", 0, api.OK}, {"a b c", "", "b", 1, api.OK}, {"a b c", "", "c", 2, api.OK}, {"a b c", "", "d", -1, api.ErrName}, {"a b c", "", "", -1, api.ErrName}, {"", "", "a", -1, api.ErrName}, {"", "", "", -1, api.ErrName}, {"a b c", "", "A", -1, api.ErrName}, {"a b c", "", "aa", -1, api.ErrName}, {"a b c", "", "a ", -1, api.ErrName}, {"aa b c", "", "a", -1, api.ErrName}, {"a b c", "", "s", -1, api.ErrName}, {"a b c", "", "\xff", -1, api.ErrName},
		{"a b?s", "1", "b", 1, api.OK}, {"a b?s", "0", "b", -1, api.ErrNone}, {"a b?s", "", "b", -1, api.ErrNone}, {"a b?t", "1", "b", -1, api.ErrNone}, {"a?s b", "0", "b", 1, api.OK}, {"a?s b", "0", "a", -1, api.ErrNone}, {"a?s b", "0", "s", -1, api.ErrName},
		// Of two of one name the first counts, whether it is relevant or not.
		{"a b a", "", "a", 0, api.OK}, {"a?s b a", "0", "a", -1, api.ErrNone}, {"a b a?s", "0", "a", 0, api.OK}, {"b a?s a", "1", "a", 1, api.OK}, {"b a?s a a", "0", "a", -1, api.ErrNone},
	} {
		f, on := form(x.pages, "s"), states(x.on)
		if got, err := page.Jump(f, on, x.name); got != x.want || err != x.err {
			t.Errorf("Jump to %q of %q is %v, %v", x.name, x.pages, got, err)
		}
		expectJump(t, f, on, x.name)
	}
	// A page without a name is one whose name is empty.
	f := api.Form{Pages: []api.Page{{Name: "a"}, {}, {When: "s"}}}
	expectJump(t, f, nil, "")
	if got, err := page.Jump(f, nil, ""); got != 1 || err != api.OK {
		t.Error("Jump to no name is", got, err)
	}
	if !strings.Contains(api.ErrNone.Error(), "12") {
		t.Error("ErrNone is", api.ErrNone)
	}
}

// P18.1, P18.2: all forms of a few pages, and all places.
func TestAllOfFourPages(t *testing.T) {
	whens := []string{"", "s", "t"}
	for count := range 5 {
		for number := range []int{1, 3, 9, 27, 81}[count] {
			var f api.Form
			for i := range count {
				f.Pages = append(f.Pages, api.Page{Name: string(rune('a' + i)), When: whens[number%3]})
				number /= 3
			}
			f.Switches = []api.Switch{{Name: "s"}, {Name: "t"}}
			for _, on := range []string{"", "0", "1", "00", "01", "10", "11"} {
				for _, at := range places(f) {
					expectSaid(t, f, states(on), at)
				}
			}
		}
	}
}

// P18.3: what is answered hangs on the arguments alone, whatever else the form
// has and was asked ahead.
func TestAskedAgain(t *testing.T) {
	r := rand.New(rand.NewSource(181))
	for range 2000 {
		f, on := some(r)
		places := places(f)
		at := places[r.Intn(len(places))]
		expectSaid(t, f, on, at)
		other, _ := some(r)
		other.Pages = append(other.Pages, f.Pages...)
		page.Relevant(other, on)
		page.Fix(other, nil, at)
		f.Fields, f.Params = []api.Field{{Name: "a"}}, []api.Param{{Name: "s"}}
		f.Rules, f.Checks = []api.Rule{{Name: "s", When: "s"}}, []api.Check{{Name: "t"}}
		expectSaid(t, f, on, at)
		expectSaid(t, f, on, at)
	}
}

// W6: what is handed in is not changed, and what is answered is new memory;
// what stands behind the end of a list is not read.
func TestNothingIsChangedOrKept(t *testing.T) {
	r := rand.New(rand.NewSource(182))
	for range 1000 {
		f, on := some(r)
		f.Pages = append(slices.Clone(f.Pages), api.Page{Name: "d"}, api.Page{Name: "e"})[:len(f.Pages)]
		f.Switches = append(slices.Clone(f.Switches), api.Switch{Name: "v"}, api.Switch{Name: "u"})[:len(f.Switches)]
		on = append(slices.Clone(on), slices.Repeat([]bool{true}, 9)...)[:len(on)]
		pages, switches, states := slices.Clone(f.Pages[:cap(f.Pages)]), slices.Clone(f.Switches[:cap(f.Switches)]), slices.Clone(on[:cap(on)])
		at := r.Intn(8) - 1
		expectSaid(t, f, on, at)
		if !reflect.DeepEqual(pages, f.Pages[:cap(f.Pages)]) || !reflect.DeepEqual(switches, f.Switches[:cap(f.Switches)]) || !slices.Equal(states, on[:cap(on)]) {
			t.Fatal("what is handed in is changed:", f, on)
		}
		// What is answered is changed: nobody notices.
		first := page.Relevant(f, on)
		again := page.Relevant(f, on)
		want := slices.Clone(again)
		for i := range first[:cap(first)] {
			first[:cap(first)][i] = !first[:cap(first)][i]
		}
		for i := range on {
			on[i] = !on[i]
		}
		clear(f.Pages)
		if !slices.Equal(again, want) {
			t.Fatal("an answer is what was handed in, or another one:", f, on)
		}
		if !slices.Equal(states[len(on):], on[:cap(on)][len(on):]) {
			t.Fatal("what is answered shares memory with what was handed in:", f, on)
		}
	}
}

// W1: what is great comes to an end.
func TestGreatForms(t *testing.T) {
	const count = 1 << 17
	f := api.Form{Pages: make([]api.Page, count), Switches: make([]api.Switch, count)}
	for i := range count {
		name := "s" + strconv.Itoa(i)
		f.Switches[i].Name, f.Pages[i] = name, api.Page{Name: name, When: name}
	}
	on := make([]bool, count)
	expectNext(t, f, on, -1, -1, false)
	expectFix(t, f, on, count/2, 0)
	on[count-1] = true
	expectNext(t, f, on, 0, count-1, true)
	expectBack(t, f, on, highest, count-1, true)
	expectBack(t, f, on, count-1, count-1, false)
	expectFix(t, f, on, 7, count-1)
	if at, err := page.Jump(f, on, f.Pages[count-1].Name); at != count-1 || err != api.OK {
		t.Error("Jump is", at, err)
	}
	long := strings.Repeat("s", 1<<20)
	f = api.Form{Pages: []api.Page{{Name: long, When: long}}, Switches: []api.Switch{{Name: long[1:]}, {Name: long}}}
	expectSaid(t, f, states("01"), 0)
	expectSaid(t, f, states("10"), 0)
}

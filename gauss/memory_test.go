package gauss_test

import (
	"fmt"
	"math/rand"
	"reflect"
	"slices"
	"testing"

	"pantograph/api"
	"pantograph/gauss"
)

// handed is what the calls are handed in.
type handed struct {
	L    []api.Con
	C    api.Con
	Val  []api.Rat
	V, N int
}

// answered is what they answer.
type answered struct {
	Holds, Consistent, Implies, IsFixed bool
	Fixed                               api.Rat
	Rank                                int
}

func ask(h *handed) *answered {
	a := &answered{Holds: gauss.Holds(h.C, h.Val), Consistent: gauss.Consistent(h.L, h.N), Implies: gauss.Implies(h.L, h.C, h.N), Rank: gauss.Rank(h.L, h.N)}
	a.Fixed, a.IsFixed = gauss.Fixed(h.L, h.V, h.N)
	return a
}

// text is all of a value as a text of its own, lists without their room.
func text(x any) string { return fmt.Sprintf("%+v", x) }

// mark is what stands in a list's room: taken for what stands in the list, it
// would change an answer. A sum of marks is one that may be: it says that
// variable 1 is -7.
func mark(kind reflect.Type) reflect.Value {
	switch kind {
	case reflect.TypeFor[api.Con]():
		return reflect.ValueOf(con(0, whole(7), row(1, 1)...))
	case reflect.TypeFor[api.Term]():
		return reflect.ValueOf(term(3, whole(7)))
	case reflect.TypeFor[api.Rat]():
		return reflect.ValueOf(whole(7))
	}
	return reflect.ValueOf(uint32(0xa5a5a5a5))
}

// copied is a copy of a value. isRoomy: each list has room with a mark in it;
// else lists go on to the end of their room.
func copied(v reflect.Value, isRoomy bool) reflect.Value {
	c := reflect.New(v.Type()).Elem()
	switch v.Kind() {
	case reflect.Struct:
		for i := range v.NumField() {
			c.Field(i).Set(copied(v.Field(i), isRoomy))
		}
		return c
	case reflect.Slice:
		if !isRoomy {
			v = v.Slice(0, v.Cap())
		}
		c = reflect.MakeSlice(v.Type(), 0, v.Len()+1)
		for i := range v.Len() {
			c = reflect.Append(c, copied(v.Index(i), isRoomy))
		}
		if isRoomy {
			return reflect.Append(c, mark(v.Type().Elem())).Slice(0, v.Len())
		}
		return c
	}
	return v
}

func roomy(x handed) *handed {
	h := copied(reflect.ValueOf(x), true).Interface().(handed)
	return &h
}

// unfolded is a copy of all that can be reached.
func unfolded(x *handed) handed {
	return copied(reflect.ValueOf(*x), false).Interface().(handed)
}

// spoil overwrites all that can be reached.
func spoil(v reflect.Value) {
	switch v.Kind() {
	case reflect.Pointer:
		spoil(v.Elem())
	case reflect.Struct:
		for i := range v.NumField() {
			spoil(v.Field(i))
		}
	case reflect.Slice:
		v = v.Slice(0, v.Cap())
		for i := range v.Len() {
			spoil(v.Index(i))
		}
	case reflect.Uint32:
		v.SetUint(0x5a5a5a5a)
	case reflect.Int:
		v.SetInt(77)
	case reflect.Bool:
		v.SetBool(!v.Bool())
	}
}

// spansOf are the places where each list begins, and the ones behind its end,
// room too.
func spansOf(v reflect.Value) [][2]uintptr {
	var list [][2]uintptr
	switch v.Kind() {
	case reflect.Pointer:
		return spansOf(v.Elem())
	case reflect.Struct:
		for i := range v.NumField() {
			list = append(list, spansOf(v.Field(i))...)
		}
	case reflect.Slice:
		v = v.Slice(0, v.Cap())
		if size := uintptr(v.Cap()) * v.Type().Elem().Size(); size > 0 {
			list = append(list, [2]uintptr{v.Pointer(), v.Pointer() + size})
		}
		for i := range v.Len() {
			list = append(list, spansOf(v.Index(i))...)
		}
	}
	return list
}

func sharesMemory(values ...any) bool {
	var spans [][2]uintptr
	for _, x := range values {
		spans = append(spans, spansOf(reflect.ValueOf(x))...)
	}
	slices.SortFunc(spans, func(a, b [2]uintptr) int { return int(a[0]) - int(b[0]) })
	for i := range max(len(spans), 1) - 1 {
		if spans[i][1] > spans[i+1][0] {
			return true
		}
	}
	return false
}

// offers are what the tests of memory hand in.
func offers() []handed {
	list := []handed{{}, {L: []api.Con{{}}, Val: []api.Rat{{}}, N: 1}}
	for _, text := range []string{"", "a", "a - 5", "-3*a", "5 - a", "a/2 - 5/3", "a + b - 3, a - b - 1", "a + b - 3, a - b - 1, a - 2", "a - 1, a - 2", "a + b", "1", "a - b, b - c, c - d, d - 9", "c, b + c, a + b + c - 1/7", "b - 1, a - 1", "2*a + 3*b - 1, 5*a - 7*b, 7*a - 4*b - 1"} {
		for v := range 4 {
			list = append(list, handed{sums(text), sum("a - 5"), wholes(5, 1, 2), v, 4}, handed{sums(text), sum("a/2 + b - 7"), wholes(2, 6)[:v/2], v, 64}, handed{sums(text), con(9, small(2, 2)), []api.Rat{{}, small(2, 4)}, v, 1})
		}
	}
	for i, bad := range badSums() {
		l := []api.Con{sum("b - a"), bad, sum("a - 5")}
		list = append(list, handed{l[i%3:], bad, roughRats(), i % 2, 5}, handed{l, sum("b - 5"), wholes(1, 5), 1, 70})
	}
	r := rand.New(rand.NewSource(105))
	for i := range 20 {
		k := long(r, 1+i, 20-i)
		l := []api.Con{con(0, k, term(0, long(r, 3, i)), term(1, k)), con(0, whole(1), term(1, long(r, i, 1)))}
		list = append(list, handed{l, l[1], []api.Rat{k, k}, i % 2, 2}, handed{[]api.Con{con(3, k, row(0, 1)...)}, con(0, k, row(0, 1)...), []api.Rat{k}, 0, 3})
	}
	m := &maker{r, 5, 5, 9}
	for range 100 {
		list = append(list, handed{m.sums(m.Intn(8)), m.con(), wholes(1, 2, 3), m.Intn(5), 5})
	}
	return list
}

// P10.3: what is handed in is neither changed nor kept.
func TestNothingIsChangedOrKept(t *testing.T) {
	for _, was := range offers() {
		want := text(ask(&was))
		h := roomy(was)
		before := unfolded(h)
		got := ask(h)
		if !reflect.DeepEqual(unfolded(h), before) {
			t.Fatal("what is handed in is changed:", text(was))
		}
		if text(got) != want {
			t.Fatal("what stands behind a list's end is read:", text(was), text(got), want)
		}
		spoil(reflect.ValueOf(h))
		if text(got) != want {
			t.Fatal("what is answered is what was handed in:", text(was), text(got), want)
		}
		spoil(reflect.ValueOf(got))
		if again := text(ask(roomy(was))); again != want {
			t.Fatal("a call answers something else the second time:", text(was), again, want)
		}
	}
}

// W6: no two lists of an answer share memory, nor those of two answers, nor
// with what is handed in.
func TestAnswersAreNewMemory(t *testing.T) {
	fixed := 0
	for _, was := range offers() {
		h := roomy(was)
		first, second := ask(h), ask(h)
		if sharesMemory(h, first, second) {
			t.Fatal("two lists share memory:", text(was))
		}
		if first.IsFixed {
			fixed++
		}
	}
	if fixed < 100 {
		t.Error("too few are fixed:", fixed)
	}
}

// The tests above notice what is changed, and what shares memory.
func TestSharedMemoryIsNoticed(t *testing.T) {
	row := []uint32{1, 2, 3}
	for _, x := range []struct {
		shares bool
		values []any
	}{
		{false, nil}, {false, []any{row}}, {true, []any{row, row}}, {true, []any{row[:1], row[1:2]}}, {false, []any{row[:1:1], row[1:]}}, {false, []any{row[:0:0], row}}, {true, []any{api.Rat{N: row, D: row[2:]}}}, {true, []any{&handed{L: []api.Con{{K: api.Rat{D: row}}}}, row}},
	} {
		if sharesMemory(x.values...) != x.shares {
			t.Error("shared memory is not noticed, or noticed where there is none:", x.values)
		}
	}
	h := roomy(handed{L: sums("a + b - 1, b"), C: sum("a"), Val: wholes(1, 2)})
	before := unfolded(h)
	for _, change := range []func(){
		func() { h.L[0], h.L[1] = h.L[1], h.L[0] }, func() { h.L[:3][2].Strength++ }, func() { h.L[1].Terms[0].Var++ }, func() { h.L[1].Terms[:2][1].Var = 9 }, func() { h.C.K.D[0]++ }, func() { h.Val[1].N[:2][1]++ }, func() { h.C.Terms[0].C.N[0]++ },
	} {
		change()
		if reflect.DeepEqual(unfolded(h), before) {
			t.Error("a change is not noticed")
		}
		before = unfolded(h)
	}
}

// P10.3: one sum may stand in the list many times, and be c; one number may be
// all of them.
func TestListsThatAreOne(t *testing.T) {
	for _, was := range offers() {
		if len(was.L) == 0 {
			continue
		}
		h := roomy(was)
		h.C, h.Val = h.L[0], []api.Rat{h.L[0].K, h.L[0].K}
		h.L = append(slices.Clone(h.L), h.L...)
		apart := roomy(*h)
		before := unfolded(h)
		got := ask(h)
		if want := text(ask(apart)); text(got) != want {
			t.Fatal("lists that are one:", text(*h), text(got), want)
		}
		if !reflect.DeepEqual(unfolded(h), before) {
			t.Fatal("lists that are one are changed:", text(was))
		}
		if sharesMemory(got) || sharesMemory(got, apart) {
			t.Fatal("an answer shares memory:", text(*h))
		}
	}
}

// W7: an answer stays, whatever is called later.
func TestAnswersStay(t *testing.T) {
	var first []*answered
	var texts []string
	for _, h := range offers() {
		first = append(first, ask(&h))
		texts = append(texts, text(first[len(first)-1]))
	}
	for i, h := range offers() {
		if now := text(ask(&h)); text(first[i]) != texts[i] || now != texts[i] {
			t.Fatal("an answer changes later:", text(h))
		}
	}
}

// W3: where Fixed is false its number is the zero value.
func TestNothingBesideFalse(t *testing.T) {
	free := 0
	for _, h := range offers() {
		a := ask(&h)
		if !a.IsFixed && !alike(a.Fixed, api.Rat{}) {
			t.Error("Fixed answers", a.Fixed, "beside false")
		}
		if !a.IsFixed {
			free++
		}
	}
	if free < 100 {
		t.Error("too few are free:", free)
	}
}

package run_test

import (
	"fmt"
	"math/rand"
	"reflect"
	"slices"
	"testing"

	"pantograph/api"
	"pantograph/run"
)

// handed is what the calls are handed in.
type handed struct {
	L    []api.Con
	Outs []int
	Val  []api.Rat
	N    int
}

// answered is what they answer.
type answered struct {
	Order  []int
	Vals   []api.Rat
	Number int
	Err    api.Errno
}

func ask(h *handed) *answered {
	vals, number, err := run.Run(h.L, h.Outs, h.Val)
	return &answered{run.Order(h.L, h.Outs, h.N), vals, number, err}
}

// text is all of a value as a text of its own, lists without their room.
func text(x any) string { return fmt.Sprintf("%+v", x) }

// mark is what stands in a list's room: taken for what stands in the list, it
// would change an answer. A constraint of marks is of a and b, and an out tells
// a.
func mark(kind reflect.Type) reflect.Value {
	switch kind {
	case reflect.TypeFor[api.Con]():
		return reflect.ValueOf(of(0, 0, 1))
	case reflect.TypeFor[api.Term]():
		return reflect.ValueOf(term(4, whole(7)))
	case reflect.TypeFor[api.Rat]():
		return reflect.ValueOf(whole(7))
	case reflect.TypeFor[int]():
		return reflect.ValueOf(0)
	}
	return reflect.ValueOf(uint32(0xa5a5a5a5))
}

// copied is a copy of a value. isRoomy: each list has room with a mark in it;
// else lists go on to the end of their room.
func copied(v reflect.Value, isRoomy bool) reflect.Value {
	c := reflect.New(v.Type()).Elem()
	switch v.Kind() {
	case reflect.Struct:
		for i := range v.NumField() {
			c.Field(i).Set(copied(v.Field(i), isRoomy))
		}
		return c
	case reflect.Slice:
		if !isRoomy {
			v = v.Slice(0, v.Cap())
		}
		c = reflect.MakeSlice(v.Type(), 0, v.Len()+1)
		for i := range v.Len() {
			c = reflect.Append(c, copied(v.Index(i), isRoomy))
		}
		if isRoomy {
			return reflect.Append(c, mark(v.Type().Elem())).Slice(0, v.Len())
		}
		return c
	}
	return v
}

func roomy(x handed) *handed {
	h := copied(reflect.ValueOf(x), true).Interface().(handed)
	return &h
}

// unfolded is a copy of all that can be reached.
func unfolded(x *handed) handed {
	return copied(reflect.ValueOf(*x), false).Interface().(handed)
}

// spoil overwrites all that can be reached.
func spoil(v reflect.Value) {
	switch v.Kind() {
	case reflect.Pointer:
		spoil(v.Elem())
	case reflect.Struct:
		for i := range v.NumField() {
			spoil(v.Field(i))
		}
	case reflect.Slice:
		v = v.Slice(0, v.Cap())
		for i := range v.Len() {
			spoil(v.Index(i))
		}
	case reflect.Uint32:
		v.SetUint(0x5a5a5a5a)
	case reflect.Int:
		v.SetInt(77)
	case reflect.Bool:
		v.SetBool(!v.Bool())
	}
}

// spansOf are the places where each list begins, and the ones behind its end,
// room too.
func spansOf(v reflect.Value) [][2]uintptr {
	var list [][2]uintptr
	switch v.Kind() {
	case reflect.Pointer:
		return spansOf(v.Elem())
	case reflect.Struct:
		for i := range v.NumField() {
			list = append(list, spansOf(v.Field(i))...)
		}
	case reflect.Slice:
		v = v.Slice(0, v.Cap())
		if size := uintptr(v.Cap()) * v.Type().Elem().Size(); size > 0 {
			list = append(list, [2]uintptr{v.Pointer(), v.Pointer() + size})
		}
		for i := range v.Len() {
			list = append(list, spansOf(v.Index(i))...)
		}
	}
	return list
}

func sharesMemory(values ...any) bool {
	var spans [][2]uintptr
	for _, x := range values {
		spans = append(spans, spansOf(reflect.ValueOf(x))...)
	}
	slices.SortFunc(spans, func(a, b [2]uintptr) int { return int(a[0]) - int(b[0]) })
	for i := range max(len(spans), 1) - 1 {
		if spans[i][1] > spans[i+1][0] {
			return true
		}
	}
	return false
}

// offers are what the tests of memory hand in.
func offers() []handed {
	list := []handed{{}, {[]api.Con{{}}, []int{0}, []api.Rat{{}}, 1}, {[]api.Con{}, []int{}, []api.Rat{}, 64}, {nil, []int{3, -1}, numbers("1 2"), 4}, {nil, nil, slices.Repeat(roughNumbers(), 4)[:64], 64}}
	for _, text := range []string{"", "0 = 0", "a = 0 > a", "a = 1/3 > a", "b = a > b, a = 5 > a", "2*a = 3*b > a, c = a - 1/7 > c, d = 2", "a + b = 1, b = 2*c > b, d = b > d", "a = b > c", "a = 1 > a, a = 2 > a", "a = b > a, a = b > b", "c = d > d, b = c > c, a = b > b"} {
		l, outs := equations(text)
		for _, val := range []string{"1", "2 1", "1 1 1", "7 7 7 0", "1/7 0 -1/3 2 5"} {
			val := numbers(val)
			list = append(list, handed{l, outs, val, len(val)}, handed{l, outs, allRewritten(val), 8}, handed{l, outs[:len(l)/2], val, 4}, handed{l, nobody(len(l)), allRewritten(val), 64})
		}
		list = append(list, handed{l, outs, slices.Repeat([]api.Rat{normal(power(511, 3)), normal(power(600, 1)), {}}, 3), 9})
	}
	for i, bad := range badCons() {
		l := []api.Con{of(0, 2, 3), bad, of(3, 3), bad}
		list = append(list, handed{l[i%3:], []int{2, -1, 3, -1}[i%3:], roughNumbers()[:5], 5}, handed{l[2:3], []int{3}, roughNumbers()[i%9:], 64})
	}
	m := &maker{rand.New(rand.NewSource(145)), 7, 3}
	for i := range 100 {
		l := m.forest(m.Intn(8))
		if i%4 == 0 {
			l = m.great(l)
		}
		list = append(list, handed{l, m.outs(l, i%11), m.values(), 7})
	}
	return list
}

// P14.3: what is handed in is neither changed nor kept.
func TestNothingIsChangedOrKept(t *testing.T) {
	for _, was := range offers() {
		want := text(ask(&was))
		h := roomy(was)
		before := unfolded(h)
		got := ask(h)
		if !reflect.DeepEqual(unfolded(h), before) {
			t.Fatal("what is handed in is changed:", text(was))
		}
		if text(got) != want {
			t.Fatal("what stands behind a list's end is read:", text(was), text(got), want)
		}
		spoil(reflect.ValueOf(h))
		if text(got) != want {
			t.Fatal("what is answered is what was handed in:", text(was), text(got), want)
		}
		spoil(reflect.ValueOf(got))
		if again := text(ask(roomy(was))); again != want {
			t.Fatal("a call answers something else the second time:", text(was), again, want)
		}
	}
}

// W6: no two answers share memory, nor with what is handed in.
func TestAnswersAreNewMemory(t *testing.T) {
	for _, was := range offers() {
		h := roomy(was)
		if sharesMemory(h, ask(h), ask(h)) {
			t.Fatal("two lists share memory:", text(was))
		}
	}
}

// The tests above notice what is changed, and what shares memory.
func TestSharedMemoryIsNoticed(t *testing.T) {
	row := []uint32{1, 2, 3}
	list := []int{1, 2, 3}
	vals := []api.Rat{{N: row}, {D: row[:1]}}
	for _, x := range []struct {
		shares bool
		values []any
	}{
		{false, nil}, {false, []any{row}}, {true, []any{row, row}}, {true, []any{row[:1], row[1:2]}}, {false, []any{row[:1:1], row[1:]}}, {false, []any{row[:0:0], row}}, {true, []any{api.Rat{N: row, D: row[2:]}}}, {true, []any{&handed{L: []api.Con{{K: api.Rat{D: row}}}}, row}},
		{true, []any{&answered{Order: list}, &answered{Order: list[2:]}}}, {true, []any{&answered{Order: list[:0]}, list}}, {false, []any{&answered{Order: list}, &answered{Order: slices.Clone(list)}}}, {true, []any{&answered{Order: list}, &handed{Outs: list[:1]}}}, {true, []any{&answered{Vals: vals}, &handed{Val: vals[1:]}}}, {true, []any{&answered{Vals: vals}}}, {false, []any{&answered{Vals: vals[:1:1]}}},
	} {
		if sharesMemory(x.values...) != x.shares {
			t.Error("shared memory is not noticed, or noticed where there is none:", x.values)
		}
	}
	l, outs := choice("0:ab>a 3:b")
	h := roomy(handed{l, outs, numbers("3 1/2"), 2})
	before := unfolded(h)
	for _, change := range []func(){
		func() { h.L[0], h.L[1] = h.L[1], h.L[0] }, func() { h.L[:3][2].Strength++ }, func() { h.L[1].Terms[0].Var++ }, func() { h.L[1].Terms[:2][1].Var = 9 }, func() { h.L[0].K.D[0]++ }, func() { h.L[1].Terms[0].C.N[:2][1]++ }, func() { h.Outs[1] = 1 }, func() { h.Outs[:3][2]++ }, func() { h.Val[1].Neg = true }, func() { h.Val[:3][2].N[0]++ }, func() { h.Val[1].D[0]++ },
	} {
		change()
		if reflect.DeepEqual(unfolded(h), before) {
			t.Error("a change is not noticed")
		}
		before = unfolded(h)
	}
}

// W7: an answer stays, whatever is called later.
func TestAnswersStay(t *testing.T) {
	var first []*answered
	var texts []string
	for _, h := range offers() {
		first = append(first, ask(&h))
		texts = append(texts, text(first[len(first)-1]))
	}
	for i, h := range offers() {
		if now := text(ask(&h)); text(first[i]) != texts[i] || now != texts[i] {
			t.Fatal("an answer changes later:", text(h))
		}
	}
}

// P14.3: one constraint, one list of terms and one value may stand in the
// lists many times, and one list of limbs may be of several numbers.
func TestListsThatAreOne(t *testing.T) {
	for _, was := range offers() {
		h := roomy(was)
		h.L, h.Outs = append(slices.Clone(h.L), h.L...), append(slices.Clone(h.Outs), nobody(len(h.Outs))...)
		for v := range h.Val {
			h.Val[v] = h.Val[v/2]
			if v == 1 && len(h.L) > 0 {
				h.Val[v] = api.Rat{Neg: true, N: h.L[0].K.D, D: h.L[0].K.D}
			}
		}
		apart := roomy(*h)
		before := unfolded(h)
		got := ask(h)
		if want := text(ask(apart)); text(got) != want {
			t.Fatal("lists that are one:", text(*h), text(got), want)
		}
		if !reflect.DeepEqual(unfolded(h), before) {
			t.Fatal("lists that are one are changed:", text(was))
		}
		if sharesMemory(got) {
			t.Fatal("two lists of an answer share memory:", text(was))
		}
	}
}

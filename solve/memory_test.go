package solve_test

import (
	"fmt"
	"math/rand"
	"reflect"
	"slices"
	"testing"

	"pantograph/api"
	"pantograph/solve"
)

// handed is what the call is handed in.
type handed struct {
	L []api.Con
	S solve.State
}

// answered is what it answers.
type answered struct {
	S      solve.State
	Number int
	Err    api.Errno
}

func ask(h *handed) *answered {
	s, number, err := solve.Phase(h.L, h.S)
	return &answered{s, number, err}
}

// text is all of a value as a text of its own, lists without their room.
func text(x any) string { return fmt.Sprintf("%+v", x) }

// mark is what stands in a list's room: taken for what stands in the list, it
// would change an answer. A constraint of marks is of a and b, and an out tells
// a.
func mark(kind reflect.Type) reflect.Value {
	switch kind {
	case reflect.TypeFor[api.Con]():
		return reflect.ValueOf(of(0, 0, 1))
	case reflect.TypeFor[api.Term]():
		return reflect.ValueOf(term(4, whole(7)))
	case reflect.TypeFor[api.Rat]():
		return reflect.ValueOf(whole(7))
	case reflect.TypeFor[int]():
		return reflect.ValueOf(0)
	}
	return reflect.ValueOf(uint32(0xa5a5a5a5))
}

// copied is a copy of a value. isRoomy: each list has room with a mark in it;
// else lists go on to the end of their room.
func copied(v reflect.Value, isRoomy bool) reflect.Value {
	c := reflect.New(v.Type()).Elem()
	switch v.Kind() {
	case reflect.Struct:
		for i := range v.NumField() {
			c.Field(i).Set(copied(v.Field(i), isRoomy))
		}
		return c
	case reflect.Slice:
		if !isRoomy {
			v = v.Slice(0, v.Cap())
		}
		c = reflect.MakeSlice(v.Type(), 0, v.Len()+1)
		for i := range v.Len() {
			c = reflect.Append(c, copied(v.Index(i), isRoomy))
		}
		if isRoomy {
			return reflect.Append(c, mark(v.Type().Elem())).Slice(0, v.Len())
		}
		return c
	}
	return v
}

func roomy(x handed) *handed {
	h := copied(reflect.ValueOf(x), true).Interface().(handed)
	return &h
}

// unfolded is a copy of all that can be reached.
func unfolded(x *handed) handed {
	return copied(reflect.ValueOf(*x), false).Interface().(handed)
}

// spoil overwrites all that can be reached.
func spoil(v reflect.Value) {
	switch v.Kind() {
	case reflect.Pointer:
		spoil(v.Elem())
	case reflect.Struct:
		for i := range v.NumField() {
			spoil(v.Field(i))
		}
	case reflect.Slice:
		v = v.Slice(0, v.Cap())
		for i := range v.Len() {
			spoil(v.Index(i))
		}
	case reflect.Uint32:
		v.SetUint(0x5a5a5a5a)
	case reflect.Int:
		v.SetInt(77)
	case reflect.Bool:
		v.SetBool(!v.Bool())
	}
}

// spansOf are the places where each list begins, and the ones behind its end,
// room too.
func spansOf(v reflect.Value) [][2]uintptr {
	var list [][2]uintptr
	switch v.Kind() {
	case reflect.Pointer:
		return spansOf(v.Elem())
	case reflect.Struct:
		for i := range v.NumField() {
			list = append(list, spansOf(v.Field(i))...)
		}
	case reflect.Slice:
		v = v.Slice(0, v.Cap())
		if size := uintptr(v.Cap()) * v.Type().Elem().Size(); size > 0 {
			list = append(list, [2]uintptr{v.Pointer(), v.Pointer() + size})
		}
		for i := range v.Len() {
			list = append(list, spansOf(v.Index(i))...)
		}
	}
	return list
}

func sharesMemory(values ...any) bool {
	var spans [][2]uintptr
	for _, x := range values {
		spans = append(spans, spansOf(reflect.ValueOf(x))...)
	}
	slices.SortFunc(spans, func(a, b [2]uintptr) int { return int(a[0]) - int(b[0]) })
	for i := range max(len(spans), 1) - 1 {
		if spans[i][1] > spans[i+1][0] {
			return true
		}
	}
	return false
}

// offers are what the tests of memory hand in.
func offers() []handed {
	list := []handed{{}, {[]api.Con{{}}, state([]int{0}, []api.Rat{{}})}, {[]api.Con{}, state([]int{}, []api.Rat{})}, {nil, state([]int{3, -1}, numbers("1 2"))}, {nil, state(nil, slices.Repeat(roughNumbers(), 4)[:64])}}
	for _, text := range []string{"", "required 0 = 0", "weak 0 = 1", "required 0 = 1", "weak a = 0 > a", "stay a = 1/3 > a", "required b = a > b, weak a = 5", "required 2*a = 3*b > a, strong c = a - 1/7 > c, weak d = 2", "required a + b = 1, weak b = 2*c > b, required d = b > d", "weak a = b > c", "weak a = 1 > a, strong a = 2 > a", "required a = b, required b = a", "required a = 1, required a = 2", "required c = d > d, required b = c > c, required a = b, weak a = 1, weak a = 2"} {
		l, outs := cons(text)
		for _, vals := range []string{"1", "2 1", "1 1 1", "7 7 7 0", "1/7 0 -1/3 2 5"} {
			vals := numbers(vals)
			list = append(list, handed{l, state(outs, vals)}, handed{l, state(outs, allRewritten(vals))}, handed{l, state(outs[:len(l)/2], vals)}, handed{l, state(nobody(len(l)), allRewritten(vals))})
		}
		list = append(list, handed{l, state(outs, slices.Repeat([]api.Rat{normal(power(511, 3)), normal(power(600, 1)), {}}, 3))})
	}
	for i, bad := range badCons() {
		l := []api.Con{of(0, 2, 3), bad, of(3, 3), bad}
		list = append(list, handed{l[i%3:], state([]int{2, -1, 3, -1}[i%3:], roughNumbers()[:5])}, handed{l[2:3], state([]int{3}, roughNumbers()[i%9:])})
	}
	m := &maker{rand.New(rand.NewSource(153)), 7, 3}
	for i := range 200 {
		l := m.forest(m.Intn(8))
		list = append(list, handed{l, state(m.outs(l, i%11), m.values())})
	}
	return list
}

// P15.2: what is handed in is neither changed nor kept.
func TestNothingIsChangedOrKept(t *testing.T) {
	for _, was := range offers() {
		want := text(ask(&was))
		h := roomy(was)
		before := unfolded(h)
		got := ask(h)
		if !reflect.DeepEqual(unfolded(h), before) {
			t.Fatal("what is handed in is changed:", text(was))
		}
		if text(got) != want {
			t.Fatal("what stands behind a list's end is read:", text(was), text(got), want)
		}
		spoil(reflect.ValueOf(h))
		if text(got) != want {
			t.Fatal("what is answered is what was handed in:", text(was), text(got), want)
		}
		spoil(reflect.ValueOf(got))
		if again := text(ask(roomy(was))); again != want {
			t.Fatal("a call answers something else the second time:", text(was), again, want)
		}
	}
}

// W6: no two answers share memory, nor with what is handed in.
func TestAnswersAreNewMemory(t *testing.T) {
	for _, was := range offers() {
		h := roomy(was)
		if sharesMemory(h, ask(h), ask(h)) {
			t.Fatal("two lists share memory:", text(was))
		}
	}
}

// The tests above notice what is changed, and what shares memory.
func TestSharedMemoryIsNoticed(t *testing.T) {
	row := []uint32{1, 2, 3}
	list := []int{1, 2, 3}
	vals := []api.Rat{{N: row}, {D: row[:1]}}
	for _, x := range []struct {
		shares bool
		values []any
	}{
		{false, nil}, {false, []any{row}}, {true, []any{row, row}}, {true, []any{row[:1], row[1:2]}}, {false, []any{row[:1:1], row[1:]}}, {false, []any{row[:0:0], row}}, {true, []any{api.Rat{N: row, D: row[2:]}}}, {true, []any{&handed{L: []api.Con{{K: api.Rat{D: row}}}}, row}},
		{true, []any{&answered{S: state(list, nil)}, &answered{S: state(list[2:], nil)}}}, {true, []any{&answered{S: state(list[:0], nil)}, list}}, {false, []any{&answered{S: state(list, nil)}, &answered{S: state(slices.Clone(list), nil)}}}, {true, []any{&answered{S: state(list, nil)}, &handed{S: state(list[:1], nil)}}}, {true, []any{&answered{S: state(nil, vals)}, &handed{S: state(nil, vals[1:])}}}, {true, []any{&answered{S: state(nil, vals)}}}, {false, []any{&answered{S: state(nil, vals[:1:1])}}},
	} {
		if sharesMemory(x.values...) != x.shares {
			t.Error("shared memory is not noticed, or noticed where there is none:", x.values)
		}
	}
	l, outs := cons("required a = b > a, weak b = 1")
	h := roomy(handed{l, state(outs, numbers("3 1/2"))})
	before := unfolded(h)
	for _, change := range []func(){
		func() { h.L[0], h.L[1] = h.L[1], h.L[0] }, func() { h.L[:3][2].Strength++ }, func() { h.L[1].Terms[0].Var++ }, func() { h.L[1].Terms[:2][1].Var = 9 }, func() { h.L[0].K.D[0]++ }, func() { h.L[1].Terms[0].C.N[:2][1]++ }, func() { h.S.Outs[1] = 1 }, func() { h.S.Outs[:3][2]++ }, func() { h.S.Vals[1].Neg = true }, func() { h.S.Vals[:3][2].N[0]++ }, func() { h.S.Vals[1].D[0]++ },
	} {
		change()
		if reflect.DeepEqual(unfolded(h), before) {
			t.Error("a change is not noticed")
		}
		before = unfolded(h)
	}
}

// W7: an answer stays, whatever is called later.
func TestAnswersStay(t *testing.T) {
	var first []*answered
	var texts []string
	for _, h := range offers() {
		first = append(first, ask(&h))
		texts = append(texts, text(first[len(first)-1]))
	}
	for i, h := range offers() {
		if now := text(ask(&h)); text(first[i]) != texts[i] || now != texts[i] {
			t.Fatal("an answer changes later:", text(h))
		}
	}
}

// P15.2: one constraint, one list of terms and one value may stand in the
// lists many times, and one list of limbs may be of several numbers.
func TestListsThatAreOne(t *testing.T) {
	for _, was := range offers() {
		h := roomy(was)
		h.L, h.S.Outs = append(slices.Clone(h.L), h.L...), append(slices.Clone(h.S.Outs), nobody(len(h.S.Outs))...)
		for v := range h.S.Vals {
			h.S.Vals[v] = h.S.Vals[v/2]
			if v == 1 && len(h.L) > 0 {
				h.S.Vals[v] = api.Rat{Neg: true, N: h.L[0].K.D, D: h.L[0].K.D}
			}
		}
		apart := roomy(*h)
		before := unfolded(h)
		got := ask(h)
		if want := text(ask(apart)); text(got) != want {
			t.Fatal("lists that are one:", text(*h), text(got), want)
		}
		if !reflect.DeepEqual(unfolded(h), before) {
			t.Fatal("lists that are one are changed:", text(was))
		}
		if sharesMemory(got) {
			t.Fatal("two lists of an answer share memory:", text(was))
		}
	}
}

package elab_test

import (
	"fmt"
	"math/rand"
	"reflect"
	"slices"
	"testing"
	"unsafe"

	"pantograph/aff"
	"pantograph/api"
	"pantograph/elab"
)

// answered is what the calls answer.
type answered struct {
	Fields []string
	Env    aff.Env
	Active elab.Active
	Name   string
	Err    api.Errno
}

func ask(x *handed) *answered {
	a := &answered{Fields: elab.Fields(x.F), Env: elab.Env(x.F, x.Params)}
	a.Active, a.Name, a.Err = elab.Elab(x.F, x.Params, x.On)
	return a
}

// handed is what they are handed in.
type handed struct {
	F      api.Form
	Params []api.Rat
	On     []bool
}

// told is all of a value as a text of its own, lists without their room.
func told(x any) string { return fmt.Sprintf("%+v", x) }

// loan is a text in memory that can be changed.
func loan(s string) string {
	if s == "" {
		return ""
	}
	b := []byte(s)
	return unsafe.String(&b[0], len(b))
}

// mark is what stands in a list's room: taken for what stands in the list, it
// would change an answer.
func mark(kind reflect.Type) reflect.Value {
	v := reflect.New(kind).Elem()
	switch kind.Kind() {
	case reflect.Struct:
		for i := range kind.NumField() {
			v.Field(i).Set(mark(kind.Field(i).Type))
		}
	case reflect.String:
		v.SetString(loan("spare"))
	case reflect.Uint32:
		v.SetUint(0xa5a5a5a5)
	case reflect.Bool:
		v.SetBool(true)
	}
	return v
}

// copied is a copy of a value, each of its texts on loan. isRoomy: each list
// has room with a mark in it; else lists go on to the end of their room.
func copied(v reflect.Value, isRoomy bool) reflect.Value {
	c := reflect.New(v.Type()).Elem()
	switch v.Kind() {
	case reflect.Struct:
		for i := range v.NumField() {
			c.Field(i).Set(copied(v.Field(i), isRoomy))
		}
		return c
	case reflect.Slice:
		if !isRoomy {
			v = v.Slice(0, v.Cap())
		}
		c = reflect.MakeSlice(v.Type(), 0, v.Len()+1)
		for i := range v.Len() {
			c = reflect.Append(c, copied(v.Index(i), isRoomy))
		}
		return reflect.Append(c, mark(v.Type().Elem())).Slice(0, v.Len())
	case reflect.String:
		c.SetString(loan(v.String()))
		return c
	}
	return v
}

func roomy(x handed) *handed {
	h := copied(reflect.ValueOf(x), true).Interface().(handed)
	return &h
}

// unfolded is a copy of all that can be reached.
func unfolded(x *handed) handed {
	return copied(reflect.ValueOf(*x), false).Interface().(handed)
}

// spoil overwrites all that can be reached, texts only if they are on loan.
func spoil(v reflect.Value, isLoan bool) {
	switch v.Kind() {
	case reflect.Pointer:
		spoil(v.Elem(), isLoan)
	case reflect.Struct:
		for i := range v.NumField() {
			spoil(v.Field(i), isLoan)
		}
	case reflect.Slice:
		v = v.Slice(0, v.Cap())
		for i := range v.Len() {
			spoil(v.Index(i), isLoan)
		}
	case reflect.String:
		bytes := unsafe.Slice(unsafe.StringData(v.String()), v.Len())
		for i := range bytes {
			if isLoan {
				bytes[i] = '?'
			}
		}
		v.SetString("spoilt")
	case reflect.Uint32:
		v.SetUint(0x5a5a5a5a)
	case reflect.Int:
		v.SetInt(77)
	case reflect.Bool:
		v.SetBool(!v.Bool())
	}
}

// spansOf are the places where each list and each text begins, and the ones
// behind its end, room too.
func spansOf(v reflect.Value) [][2]uintptr {
	var list [][2]uintptr
	switch v.Kind() {
	case reflect.Pointer:
		return spansOf(v.Elem())
	case reflect.Struct:
		for i := range v.NumField() {
			list = append(list, spansOf(v.Field(i))...)
		}
	case reflect.String:
		if v.Len() > 0 {
			first := uintptr(unsafe.Pointer(unsafe.StringData(v.String())))
			list = append(list, [2]uintptr{first, first + uintptr(v.Len())})
		}
	case reflect.Slice:
		v = v.Slice(0, v.Cap())
		if size := uintptr(v.Cap()) * v.Type().Elem().Size(); size > 0 {
			list = append(list, [2]uintptr{v.Pointer(), v.Pointer() + size})
		}
		for i := range v.Len() {
			list = append(list, spansOf(v.Index(i))...)
		}
	}
	return list
}

func sharesMemory(values ...any) bool {
	var spans [][2]uintptr
	for _, x := range values {
		spans = append(spans, spansOf(reflect.ValueOf(x))...)
	}
	slices.SortFunc(spans, func(a, b [2]uintptr) int { return int(a[0]) - int(b[0]) })
	for i := range max(len(spans), 1) - 1 {
		if spans[i][1] > spans[i+1][0] {
			return true
		}
	}
	return false
}

// offers are what the tests of memory hand in: without an error, and with each.
func offers() []handed {
	list := []handed{{}, {Params: wholes(1), On: []bool{true}}}
	add := func(f api.Form, params []api.Rat, on []bool) { list = append(list, handed{f, params, on}) }
	f := form(wholeForm()...)
	for _, params := range [][]api.Rat{valsOf(f), wholes(0, 0), wholes(1, 0), {greatest(), least()}, {small(6, 4), {}}, wholes(1), nil, wholes(1, 2, 3), largeRats()[:2], roughRats()[:3]} {
		for _, on := range [][]bool{{true, true}, {true, false}, {false, true}, {false, false}, {true}, nil, {true, true, true}} {
			add(f, params, on)
		}
	}
	for _, x := range faults() {
		h := faultless()
		x.change(&h)
		add(h.f, h.params, h.on)
	}
	for _, f := range wrongForms() {
		if len(f.Switches) < 9 {
			add(f, valsOf(f), statesOf(f))
		}
	}
	for _, rule := range lines("a = b", "a * m = b", "1 = 2", "k = j", "a = a", "a + b = d - m", "o * a = o", "a = 1", "m = a", "a * m * m = b", "1 / o = a") {
		f := sides(rule)
		add(f, valsOf(f), nil)
	}
	m := &maker{rand.New(rand.NewSource(93)), 20, 20}
	for range 100 {
		f := m.form()
		add(f, m.params(f), m.states(f))
	}
	return list
}

// P9.3: what is handed in is neither changed nor kept.
func TestNothingIsChangedOrKept(t *testing.T) {
	for _, was := range offers() {
		want := told(ask(&was))
		h := roomy(was)
		before := unfolded(h)
		got := ask(h)
		if !reflect.DeepEqual(unfolded(h), before) {
			t.Fatal("what is handed in is changed:", told(was))
		}
		if told(got) != want {
			t.Fatal("what stands behind a list's end is read:", told(was), told(got), want)
		}
		spoil(reflect.ValueOf(h), true)
		if told(got) != want {
			t.Fatal("what is answered is what was handed in:", told(was), told(got), want)
		}
		spoil(reflect.ValueOf(got), false)
		if again := told(ask(roomy(was))); again != want {
			t.Fatal("a call answers something else the second time:", told(was), again, want)
		}
	}
}

// W6: no two lists or texts of an answer share memory, nor those of two
// answers, nor with what is handed in.
func TestAnswersAreNewMemory(t *testing.T) {
	for _, was := range offers() {
		h := roomy(was)
		if sharesMemory(h, ask(h), ask(h)) {
			t.Fatal("two lists share memory:", told(was))
		}
	}
}

// The tests above notice what is changed, and what shares memory.
func TestSharedMemoryIsNoticed(t *testing.T) {
	row := []uint32{1, 2, 3}
	text := loan("text")
	for _, x := range []struct {
		shares bool
		values []any
	}{
		{false, nil}, {false, []any{row}}, {true, []any{row, row}}, {true, []any{row[:1], row[1:2]}}, {false, []any{row[:1:1], row[1:]}}, {true, []any{api.Rat{N: row, D: row[2:]}}}, {false, []any{row[:0:0], row}},
		{false, []any{text}}, {true, []any{text, text}}, {true, []any{[]string{text, text[3:]}}}, {false, []any{text, "text"}}, {true, []any{&handed{F: api.Form{Fields: []api.Field{{Name: text}}}}, text}},
	} {
		if sharesMemory(x.values...) != x.shares {
			t.Error("shared memory is not noticed, or noticed where there is none:", x.values)
		}
	}
	h := roomy(handed{form(wholeForm()...), wholes(1, 2), []bool{true, false}})
	before := unfolded(h)
	for _, change := range []func(){
		func() { h.On[:3][2] = false }, func() { h.Params[1].N[:2][1]++ }, func() { h.F.Rules[0].L.Kids = append(h.F.Rules[0].L.Kids, named("z")) }, func() { h.F.Fields[:4][3].Scale++ },
	} {
		change()
		if reflect.DeepEqual(unfolded(h), before) {
			t.Error("a change is not noticed")
		}
		before = unfolded(h)
	}
}

// P9.3: params may be the form's own numbers, and all of them one.
func TestNumbersThatAreOne(t *testing.T) {
	for _, was := range offers() {
		if len(was.F.Params) == 0 {
			continue
		}
		h := roomy(was)
		h.Params = valsOf(h.F)
		for i := range h.Params {
			h.Params[i] = h.F.Params[0].Val
		}
		apart := roomy(*h)
		before := unfolded(h)
		got, want := ask(h), told(ask(apart))
		if told(got) != want {
			t.Fatal("numbers that are one:", told(*h), told(got), want)
		}
		if !reflect.DeepEqual(unfolded(h), before) {
			t.Fatal("numbers that are one are changed:", told(was))
		}
		if sharesMemory(got) || sharesMemory(got, apart) {
			t.Fatal("an answer shares memory:", told(*h))
		}
	}
}

// W7: an answer stays, whatever is called later.
func TestAnswersStay(t *testing.T) {
	var first []*answered
	var texts []string
	for _, h := range offers() {
		first = append(first, ask(&h))
		texts = append(texts, told(first[len(first)-1]))
	}
	for i, h := range offers() {
		if now := told(ask(&h)); told(first[i]) != texts[i] || now != texts[i] {
			t.Fatal("an answer changes later:", told(h))
		}
	}
}

// W3: beside an error there is nothing but the name that it is about.
func TestNothingBesideErrors(t *testing.T) {
	count := map[api.Errno]int{}
	for _, h := range offers() {
		a := ask(&h)
		count[a.Err]++
		if a.Err != api.OK && !isNothing(a.Active) {
			t.Error("Elab answers", a.Active, "beside", a.Err)
		}
		isNamed := a.Err == api.ErrName || a.Err == api.ErrLinear || a.Err == api.ErrZero || a.Err == api.ErrLarge
		if isNamed != (a.Name != "") {
			t.Errorf("Elab answers the name %q beside %v", a.Name, a.Err)
		}
	}
	for _, err := range []api.Errno{api.OK, api.ErrArg, api.ErrForm, api.ErrLong, api.ErrName, api.ErrLinear, api.ErrZero, api.ErrLarge} {
		if count[err] == 0 {
			t.Error("the tests hand in nothing that is", err)
		}
	}
}

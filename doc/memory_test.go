package doc_test

import (
	"fmt"
	"math/rand"
	"reflect"
	"slices"
	"strings"
	"testing"
	"unsafe"

	"pantograph/api"
	"pantograph/doc"
)

// handed is what the calls are handed in.
type handed struct {
	F    api.Form
	D    doc.Doc
	Name string
	Val  api.Rat
	On   bool
}

// changed is what a change answers.
type changed struct {
	Doc   doc.Doc
	Names []string
	Err   api.Errno
}

// answered is what the calls answer.
type answered struct {
	Cons      []api.Con
	Outs      []int
	Err       api.Errno
	Is, Same  bool
	Own       doc.Doc
	New, Edit changed
	Pin       changed
	Param     changed
	Switch    changed
}

func ask(x *handed) *answered {
	a := &answered{Is: doc.Is(x.F, x.D), Own: doc.Own(x.D)}
	a.Same = doc.Same(x.D, a.Own)
	a.Cons, a.Outs, a.Err = doc.Cons(x.F, x.D)
	keep := func(d doc.Doc, names []string, err api.Errno) changed { return changed{d, names, err} }
	a.New = keep(doc.New(x.F))
	a.Edit = keep(doc.Edit(x.F, x.D, x.Name, x.Val))
	a.Pin = keep(doc.SetPin(x.F, x.D, x.Name, x.On))
	a.Param = keep(doc.SetParam(x.F, x.D, x.Name, x.Val))
	a.Switch = keep(doc.SetSwitch(x.F, x.D, x.Name, x.On))
	return a
}

// told is all of a value as a text of its own, lists without their room.
func told(x any) string { return fmt.Sprintf("%+v", x) }

// loan is a text in memory that can be changed.
func loan(s string) string { return strings.Clone(s) }

// mark is what stands in a list's room: taken for what stands in the list, it
// would change an answer.
func mark(kind reflect.Type) reflect.Value {
	v := reflect.New(kind).Elem()
	switch kind.Kind() {
	case reflect.Struct:
		for i := range kind.NumField() {
			v.Field(i).Set(mark(kind.Field(i).Type))
		}
	case reflect.String:
		v.SetString(loan("spare"))
	case reflect.Uint32:
		v.SetUint(0xa5a5a5a5)
	case reflect.Bool:
		v.SetBool(true)
	}
	return v
}

// copied is a copy of a value, each of its texts on loan. isRoomy: each list
// has room with a mark in it; else lists go on to the end of their room.
func copied(v reflect.Value, isRoomy bool) reflect.Value {
	c := reflect.New(v.Type()).Elem()
	switch v.Kind() {
	case reflect.Struct:
		for i := range v.NumField() {
			c.Field(i).Set(copied(v.Field(i), isRoomy))
		}
		return c
	case reflect.Slice:
		if !isRoomy {
			v = v.Slice(0, v.Cap())
		}
		c = reflect.MakeSlice(v.Type(), 0, v.Len()+1)
		for i := range v.Len() {
			c = reflect.Append(c, copied(v.Index(i), isRoomy))
		}
		return reflect.Append(c, mark(v.Type().Elem())).Slice(0, v.Len())
	case reflect.String:
		c.SetString(loan(v.String()))
		return c
	}
	return v
}

func roomy(x handed) *handed {
	h := copied(reflect.ValueOf(x), true).Interface().(handed)
	return &h
}

// unfolded is a copy of all that can be reached.
func unfolded(x *handed) handed {
	return copied(reflect.ValueOf(*x), false).Interface().(handed)
}

// spoil overwrites all that can be reached, texts only if they are on loan.
func spoil(v reflect.Value, isLoan bool) {
	switch v.Kind() {
	case reflect.Pointer:
		spoil(v.Elem(), isLoan)
	case reflect.Struct:
		for i := range v.NumField() {
			spoil(v.Field(i), isLoan)
		}
	case reflect.Slice:
		v = v.Slice(0, v.Cap())
		for i := range v.Len() {
			spoil(v.Index(i), isLoan)
		}
	case reflect.String:
		bytes := unsafe.Slice(unsafe.StringData(v.String()), v.Len())
		for i := range bytes {
			if isLoan {
				bytes[i] = '?'
			}
		}
		v.SetString("spoilt")
	case reflect.Uint32:
		v.SetUint(0x5a5a5a5a)
	case reflect.Int:
		v.SetInt(77)
	case reflect.Bool:
		v.SetBool(!v.Bool())
	}
}

// spansOf are the places where each list and each text begins, and the ones
// behind its end, room too.
func spansOf(v reflect.Value) [][2]uintptr {
	var list [][2]uintptr
	switch v.Kind() {
	case reflect.Pointer:
		return spansOf(v.Elem())
	case reflect.Struct:
		for i := range v.NumField() {
			list = append(list, spansOf(v.Field(i))...)
		}
	case reflect.String:
		if v.Len() > 0 {
			first := uintptr(unsafe.Pointer(unsafe.StringData(v.String())))
			list = append(list, [2]uintptr{first, first + uintptr(v.Len())})
		}
	case reflect.Slice:
		v = v.Slice(0, v.Cap())
		if size := uintptr(v.Cap()) * v.Type().Elem().Size(); size > 0 {
			list = append(list, [2]uintptr{v.Pointer(), v.Pointer() + size})
		}
		for i := range v.Len() {
			list = append(list, spansOf(v.Index(i))...)
		}
	}
	return list
}

func sharesMemory(values ...any) bool {
	var spans [][2]uintptr
	for _, x := range values {
		spans = append(spans, spansOf(reflect.ValueOf(x))...)
	}
	slices.SortFunc(spans, func(a, b [2]uintptr) int { return int(a[0]) - int(b[0]) })
	for i := range max(len(spans), 1) - 1 {
		if spans[i][1] > spans[i+1][0] {
			return true
		}
	}
	return false
}

// offers are what the tests of memory hand in: without an error, and with each.
func offers() []handed {
	list := []handed{{}, {Name: "a", Val: whole(1)}, {D: doc.Doc{Params: fineNumbers(), On: []bool{true}, Outs: []int{1}}}}
	add := func(f api.Form, d doc.Doc, names ...string) {
		for i, name := range names {
			for _, val := range []api.Rat{small(7, 3), small(6, 4), largeNumbers()[i]} {
				list = append(list, handed{f, d, name, val, i%2 > 0}, handed{f, d, name, val, i%2 == 0})
			}
		}
	}
	f := form("a b c; switch s on; switch y off; param p 2; param z 1; required q : a + p * b = 10 / z; weak r when s : b = 1/3; required x when y : 0 = p; weak k : c = b")
	for _, text := range []string{"a 28/3, b 1/3, c 1/3, q a, r b, k c", "a 28/3 filled, b 1/3, c 7/3 pin tells, q a, r b", "a 10 pin tells, c 0, q b, k c", "a 10 pin tells, b 0 pin 3, q b, k c", "a 28/3, b 1/3, q a, r b, z 0", "a 1", "a 28/3, b 1/3, c 1/3, q a, r b, k c, s off", "a 4 filled, b 3, c 3, q a, k c, s off"} {
		add(f, document(f, text), "a", "b", "c", "d", "p", "z", "s", "y", "q", "")
	}
	for i, a := range roughNumbers() {
		d := document(f, "a 28/3, b 1/3, c 1/3, q a, r b, k c")
		d.Params[i%2], d.Vals[i%3], d.Pins[i%3].Val = a, a, a
		add(f, d, "a", "p")
	}
	for _, x := range []struct{ form, doc, name string }{{"", "", "a"}, {"a; param z 0; weak r : a = 1 / z", "", "a"}, {"a b; weak r : a * b = 1", "", "a"}, {"a; weak r : x = 1", "a 1", "a"}, {"a b; required q : a = b; required r : b = a", "", "b"}, {"a; required q : a = 1; required r : a = 2", "", "a"}, {"a; switch s off; required q when s : 0 = 1", "", "s"}, {"a; param p 1; strong r : a = 1 / p", "a 1, r a", "a"}, {"a; param p ^300; weak r : a = p * p", "", "p"}} {
		f := api.Form{Pages: []api.Page{{Name: "p"}}}
		if x.name != "p" {
			f = form(x.form)
		} else {
			f = grown(form("a; param p 1; weak r : a = p * p"), "^300")
		}
		add(f, document(f, x.doc), x.name)
	}
	m := &maker{rand.New(rand.NewSource(163))}
	for range 150 {
		f := m.form()
		d, _, _ := doc.New(f)
		for range m.Intn(6) {
			o := m.operation(f)
			list = append(list, handed{f, d, o.name, o.val, o.on})
			if now, _, err := o.do(f, d); err == api.OK {
				d = now
			}
		}
	}
	return list
}

// P16.7: what is handed in is neither changed nor kept.
func TestNothingIsChangedOrKept(t *testing.T) {
	for _, was := range offers() {
		want := told(ask(&was))
		h := roomy(was)
		before := unfolded(h)
		got := ask(h)
		if !reflect.DeepEqual(unfolded(h), before) {
			t.Fatal("what is handed in is changed:", told(was))
		}
		if told(got) != want {
			t.Fatal("what stands behind a list's end is read:", told(was), told(got), want)
		}
		spoil(reflect.ValueOf(h), true)
		if told(got) != want {
			t.Fatal("what is answered is what was handed in:", told(was), told(got), want)
		}
		spoil(reflect.ValueOf(got), false)
		if again := told(ask(roomy(was))); again != want {
			t.Fatal("a call answers something else the second time:", told(was), again, want)
		}
	}
}

// W6: no two lists or texts of an answer share memory, nor those of two
// answers, nor with what is handed in.
func TestAnswersAreNewMemory(t *testing.T) {
	for _, was := range offers() {
		h := roomy(was)
		if sharesMemory(h, ask(h), ask(h)) {
			t.Fatal("two lists share memory:", told(was))
		}
	}
}

// The tests above notice what is changed, and what shares memory.
func TestSharedMemoryIsNoticed(t *testing.T) {
	row := []uint32{1, 2, 3}
	text := loan("text")
	list := []int{1, 2}
	for _, x := range []struct {
		shares bool
		values []any
	}{
		{false, nil}, {false, []any{row}}, {true, []any{row, row}}, {true, []any{row[:1], row[1:2]}}, {false, []any{row[:1:1], row[1:]}}, {true, []any{api.Rat{N: row, D: row[2:]}}}, {false, []any{row[:0:0], row}},
		{false, []any{text}}, {true, []any{text, text}}, {true, []any{[]string{text, text[3:]}}}, {false, []any{text, "text"}}, {true, []any{&handed{F: api.Form{Fields: []api.Field{{Name: text}}}}, changed{Names: []string{text}}}},
		{true, []any{&answered{Outs: list}, &handed{D: doc.Doc{Outs: list}}}}, {true, []any{&answered{Edit: changed{Doc: doc.Doc{Outs: list}}, Outs: list[1:]}}}, {true, []any{doc.Doc{Pins: []doc.Pin{{Val: api.Rat{N: row}}}}, row}}, {true, []any{doc.Doc{Vals: []api.Rat{{D: row}}}, row}}, {false, []any{doc.Doc{Outs: list}, slices.Clone(list)}},
	} {
		if sharesMemory(x.values...) != x.shares {
			t.Error("shared memory is not noticed, or noticed where there is none:", x.values)
		}
	}
	f := form("a b; switch s on; param p 1; weak r : a = b")
	h := roomy(handed{f, document(f, "a 1 pin"), "a", whole(3), true})
	before := unfolded(h)
	for _, change := range []func(){
		func() { h.On = false }, func() { h.Name = "b" }, func() { h.Val.N[:2][1]++ }, func() { h.D.Params[0].D[0]++ }, func() { h.D.On[0] = false }, func() { h.D.On[:2][1] = false }, func() { h.D.Vals[1].Neg = true }, func() { h.D.Vals[:3][2].Neg = false }, func() { h.D.Outs[0]++ }, func() { h.D.Outs[:2][1]++ }, func() { h.D.Pins[0].Val.N[0]++ }, func() { h.D.Pins[:3][2].On = false }, func() { h.D.Filled[1] = true }, func() { h.D.Filled[:3][2] = false }, func() { h.F.Fields[:3][2].Scale++ },
	} {
		change()
		if reflect.DeepEqual(unfolded(h), before) {
			t.Error("a change is not noticed")
		}
		before = unfolded(h)
	}
}

// P16.7: lists of what is handed in may be one: those of a document's numbers,
// of the form's own and of the one that is handed in.
func TestNumbersThatAreOne(t *testing.T) {
	for _, was := range offers() {
		h := roomy(was)
		for i := range h.D.Vals {
			if i < len(h.D.Pins) && h.D.Pins[i].On && alike(h.D.Pins[i].Val, h.D.Vals[i]) {
				h.D.Pins[i].Val = h.D.Vals[i]
			}
			if alike(h.Val, h.D.Vals[i]) {
				h.D.Vals[i] = h.Val
			}
			if i > 0 && alike(h.D.Vals[i], h.D.Vals[0]) {
				h.D.Vals[i] = h.D.Vals[0]
			}
		}
		if len(h.F.Params) == len(h.D.Params) {
			for i, x := range h.F.Params {
				if alike(x.Val, h.D.Params[i]) {
					h.D.Params[i] = x.Val
				}
			}
		}
		if len(h.D.On) > 0 && len(h.D.On) == len(h.D.Filled) && slices.Equal(h.D.On, h.D.Filled) {
			h.D.On = h.D.Filled
		}
		apart := roomy(*h)
		before := unfolded(h)
		got, want := ask(h), told(ask(apart))
		if told(got) != want {
			t.Fatal("lists that are one:", told(*h), told(got), want)
		}
		if !reflect.DeepEqual(unfolded(h), before) {
			t.Fatal("lists that are one are changed:", told(was))
		}
		if sharesMemory(got) || sharesMemory(got, apart) {
			t.Fatal("an answer shares memory:", told(*h))
		}
	}
}

// W7: an answer stays, whatever is called later.
func TestAnswersStay(t *testing.T) {
	var first []*answered
	var texts []string
	for _, h := range offers() {
		first = append(first, ask(&h))
		texts = append(texts, told(first[len(first)-1]))
	}
	for i, h := range offers() {
		if now := told(ask(&h)); told(first[i]) != texts[i] || now != texts[i] {
			t.Fatal("an answer changes later:", told(h))
		}
	}
}

// W3: beside an error there is nothing but names.
func TestNothingBesideErrors(t *testing.T) {
	count := map[api.Errno]int{}
	for _, h := range offers() {
		a := ask(&h)
		for _, c := range []changed{a.New, a.Edit, a.Pin, a.Param, a.Switch} {
			count[c.Err]++
			if c.Err != api.OK && !isNothing(c.Doc) {
				t.Error("a document is answered beside", c.Err)
			}
			isNamed := c.Err == api.ErrLinear || c.Err == api.ErrZero || c.Err == api.ErrLarge || c.Err == api.ErrCycle || c.Err == api.ErrForced || c.Err == api.ErrBlocked
			if c.Err != api.ErrName && isNamed != (len(c.Names) == 1) || len(c.Names) > 1 {
				t.Errorf("the names %q are told beside %v", c.Names, c.Err)
			}
		}
		if a.Err != api.OK && len(a.Cons)+len(a.Outs) > 0 {
			t.Error("Cons answers", a.Cons, a.Outs, "beside", a.Err)
		}
	}
	for _, err := range []api.Errno{api.OK, api.ErrArg, api.ErrName, api.ErrLinear, api.ErrZero, api.ErrLarge, api.ErrCycle, api.ErrForced, api.ErrBlocked, api.ErrNone} {
		if count[err] == 0 {
			t.Error("the tests hand in nothing that is", err)
		}
	}
}

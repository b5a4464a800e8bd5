package sheet_test

import (
	"math/rand"
	"slices"
	"strings"
	"testing"
	"unsafe"

	"pantograph/api"
	"pantograph/sheet"
)

const spare = 0xa5a5a5a5

// loan is a text in memory that can be changed.
func loan(s string) string {
	if s == "" {
		return ""
	}
	b := []byte(s)
	return unsafe.String(&b[0], len(b))
}

// spoil changes the bytes of a text that was a loan, or an answer that shares
// memory with one.
func spoil(s string) {
	for i := range unsafe.Slice(unsafe.StringData(s), len(s)) {
		unsafe.Slice(unsafe.StringData(s), len(s))[i] = '?'
	}
}

// room is a list with room behind its end, which has marks in it.
func room[T any](list []T, mark T) []T {
	return slices.Concat(list, []T{mark, mark, mark})[:len(list)]
}

func roomyRat(a api.Rat) api.Rat { return ratOf(a.Neg, room(a.N, spare), room(a.D, spare)) }

func roomyExpr(e api.Expr) api.Expr {
	x := api.Expr{Kind: e.Kind, Name: loan(e.Name), Num: roomyRat(e.Num)}
	if len(e.Kids) == 0 {
		return x
	}
	for _, kid := range e.Kids {
		x.Kids = append(x.Kids, roomyExpr(kid))
	}
	x.Kids = room(x.Kids, api.Expr{Kind: -7, Name: "spare"})
	return x
}

// roomy is a copy of a form on loan, whose lists have marked room.
func roomy(f api.Form) api.Form {
	f = copied(f)
	for _, at := range slices.Concat(names(&f), whens(&f)) {
		*at = loan(*at)
	}
	for _, at := range vals(&f) {
		*at = roomyRat(*at)
	}
	for _, at := range exprs(&f) {
		*at = roomyExpr(*at)
	}
	f.Switches, f.Pages, f.Fields = room(f.Switches, api.Switch{Name: "spare", On: true}), room(f.Pages, api.Page{Name: "spare"}), room(f.Fields, api.Field{Name: "spare", Page: 7})
	f.Params, f.Rules, f.Checks = room(f.Params, api.Param{Name: "spare"}), room(f.Rules, api.Rule{Name: "spare"}), room(f.Checks, api.Check{Name: "spare"})
	return f
}

// unfolded is a form whose lists end where their spare room does.
func unfolded(f api.Form) api.Form {
	f.Switches, f.Pages, f.Fields = f.Switches[:cap(f.Switches)], f.Pages[:cap(f.Pages)], f.Fields[:cap(f.Fields)]
	f.Params, f.Rules, f.Checks = slices.Clone(f.Params[:cap(f.Params)]), slices.Clone(f.Rules[:cap(f.Rules)]), slices.Clone(f.Checks[:cap(f.Checks)])
	for _, at := range vals(&f) {
		*at = unfoldedRat(*at)
	}
	for _, at := range exprs(&f) {
		*at = unfoldedExpr(*at)
	}
	return f
}

func unfoldedRat(a api.Rat) api.Rat { return ratOf(a.Neg, a.N[:cap(a.N)], a.D[:cap(a.D)]) }

func unfoldedExpr(e api.Expr) api.Expr {
	e.Num, e.Kids = unfoldedRat(e.Num), slices.Clone(e.Kids[:cap(e.Kids)])
	for i, kid := range e.Kids {
		e.Kids[i] = unfoldedExpr(kid)
	}
	return e
}

// fill overwrites a list from some place on, spare room too.
func fill[T any](list []T, from int, x T) {
	for i := from; i < cap(list); i++ {
		list[:cap(list)][i] = x
	}
}

func fillRat(a api.Rat, from func(int) int) {
	fill(a.N, from(len(a.N)), spare)
	fill(a.D, from(len(a.D)), spare)
}

func fillExpr(e api.Expr, from func(int) int) {
	fillRat(e.Num, from)
	for _, kid := range e.Kids {
		fillExpr(kid, from)
	}
	fill(e.Kids, from(len(e.Kids)), api.Expr{Kind: -9, Name: "spoilt"})
}

// fillForm overwrites all lists of a form, each from the place on that is told
// for its length.
func fillForm(f api.Form, from func(int) int) {
	for _, at := range vals(&f) {
		fillRat(*at, from)
	}
	for _, at := range exprs(&f) {
		fillExpr(*at, from)
	}
	fill(f.Switches, from(len(f.Switches)), api.Switch{Name: "spoilt"})
	fill(f.Params, from(len(f.Params)), api.Param{Name: "spoilt"})
	fill(f.Pages, from(len(f.Pages)), api.Page{Name: "spoilt"})
	fill(f.Fields, from(len(f.Fields)), api.Field{Name: "spoilt"})
	fill(f.Rules, from(len(f.Rules)), api.Rule{Name: "spoilt"})
	fill(f.Checks, from(len(f.Checks)), api.Check{Name: "spoilt"})
}

func all(int) int           { return 0 }
func behind(length int) int { return length }

// handed are forms of all kinds, some of which may not be.
func handed() []api.Form {
	f := whole()
	list := slices.Concat([]api.Form{{}, f, padded(f, api.MaxText), padded(f, api.MaxText+1)},
		others(), each(f, vals, slices.Concat(goodVals(), badVals())), each(f, exprs, slices.Concat(goodExprs(), badExprs())), each(f, names, badNames()[:8]))
	r := rand.New(rand.NewSource(67))
	for range 100 {
		list = append(list, grown(r, 8))
	}
	return list
}

// P6.4
func TestMemoryIsNeitherChangedNorKept(t *testing.T) {
	for _, was := range handed() {
		f, g := roomy(was), roomy(was)
		before := copied(unfolded(f))
		text, mayBe, isSame := sheet.Print(f), sheet.Is(f), sheet.Same(f, g)
		if !alike(unfolded(f), before) || !alike(unfolded(g), before) {
			t.Fatal("what is handed in is changed:", was)
		}
		if !isSame {
			t.Fatal("Same refuses a copy:", was)
		}
		want := strings.Clone(text)
		for _, at := range slices.Concat(names(&f), whens(&f)) {
			spoil(*at)
		}
		for _, e := range exprs(&f) {
			spoil(e.Name)
		}
		fillForm(f, all)
		if text != want {
			t.Fatal("what is printed shares memory with what was handed in:", was)
		}
		if sheet.Print(g) != want || sheet.Is(g) != mayBe || !sheet.Same(g, was) {
			t.Fatal("calls answer something else the second time:", was)
		}
	}
}

// P6.4: two forms may share memory.
func TestSameOfFormsThatShareMemory(t *testing.T) {
	for _, was := range handed() {
		f := roomy(was)
		g := f
		g.Rules, g.Params = f.Rules[:len(f.Rules)/2], f.Params[:len(f.Params)/2]
		before := copied(unfolded(f))
		if sheet.Same(f, g) != (len(f.Rules)+len(f.Params) == 0) || !sheet.Same(g, g) {
			t.Fatal("Same of forms that share memory:", was)
		}
		if !alike(unfolded(f), before) {
			t.Fatal("Same changes what is handed in:", was)
		}
	}
}

// P6.4: no two lists of one answer share memory, nor those of two.
func TestParseAnswersNewMemory(t *testing.T) {
	texts := []string{"", wholeText, strings.Join(goodLines()[4:], "\n"), "param p 1\nparam p 1\nparam p 1\nparam q 0\nparam r 0", "rule weak r : 1 = 1\nrule weak r : 0 = 0\nrule weak r : a + a = a + a"}
	r := rand.New(rand.NewSource(68))
	for range 100 {
		texts = append(texts, formText(grown(r, 7)))
	}
	for _, s := range texts {
		want, _, _ := read(s)
		text := loan(s)
		first, _, err := sheet.Parse(text)
		second, _, _ := sheet.Parse(text)
		spoil(text)
		if err != api.OK || !alike(first, want) || !alike(second, want) {
			t.Fatalf("Parse answers memory that was handed in: %q", short(s))
		}
		if list := lists(&first, &second); len(slices.Compact(slices.Sorted(slices.Values(list)))) != len(list) {
			t.Fatalf("Parse answers lists that share memory: %q", short(s))
		}
		fillForm(first, behind)
		if !alike(first, want) || !alike(second, want) {
			t.Fatalf("Parse answers lists that share spare room: %q", short(s))
		}
		printed := sheet.Print(first)
		fillForm(first, all)
		third, _, _ := sheet.Parse(s)
		if !alike(second, want) || !alike(third, want) || printed != formText(want) {
			t.Fatalf("Parse has kept memory: %q", short(s))
		}
	}
}

// lists are all lists of forms, told by where they begin.
func lists(forms ...*api.Form) []uintptr {
	var list []uintptr
	tell := func(at unsafe.Pointer, room int) {
		if room > 0 {
			list = append(list, uintptr(at))
		}
	}
	tellRat := func(a api.Rat) {
		tell(unsafe.Pointer(unsafe.SliceData(a.N)), cap(a.N))
		tell(unsafe.Pointer(unsafe.SliceData(a.D)), cap(a.D))
	}
	var tellExpr func(e api.Expr)
	tellExpr = func(e api.Expr) {
		tellRat(e.Num)
		tell(unsafe.Pointer(unsafe.SliceData(e.Kids)), cap(e.Kids))
		for _, kid := range e.Kids {
			tellExpr(kid)
		}
	}
	for _, f := range forms {
		for _, at := range vals(f) {
			tellRat(*at)
		}
		for _, at := range exprs(f) {
			tellExpr(*at)
		}
		tell(unsafe.Pointer(unsafe.SliceData(f.Switches)), cap(f.Switches))
		tell(unsafe.Pointer(unsafe.SliceData(f.Params)), cap(f.Params))
		tell(unsafe.Pointer(unsafe.SliceData(f.Pages)), cap(f.Pages))
		tell(unsafe.Pointer(unsafe.SliceData(f.Fields)), cap(f.Fields))
		tell(unsafe.Pointer(unsafe.SliceData(f.Rules)), cap(f.Rules))
		tell(unsafe.Pointer(unsafe.SliceData(f.Checks)), cap(f.Checks))
	}
	return list
}

// W7: an answer stays, whatever is called later.
func TestAnswersStay(t *testing.T) {
	r := rand.New(rand.NewSource(69))
	var forms, parsed []api.Form
	var texts []string
	for range 300 {
		f := grown(r, 8)
		got, _, err := sheet.Parse(formText(f))
		if err != api.OK {
			continue
		}
		forms, parsed, texts = append(forms, f), append(parsed, got), append(texts, sheet.Print(got))
		sheet.Parse("switch x on\nx")
	}
	for i, f := range forms {
		if !alike(parsed[i], f) || texts[i] != formText(f) {
			t.Fatal("an answer changes later:", f)
		}
	}
}

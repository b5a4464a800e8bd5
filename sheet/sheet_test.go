package sheet_test

import (
	"math"
	"math/rand"
	"slices"
	"testing"

	"pantograph/api"
	"pantograph/sheet"
)

// names are the places of all names but those of switches behind `when`.
func names(f *api.Form) []*string {
	var list []*string
	for i := range f.Switches {
		list = append(list, &f.Switches[i].Name)
	}
	for i := range f.Params {
		list = append(list, &f.Params[i].Name)
	}
	for i := range f.Pages {
		list = append(list, &f.Pages[i].Name)
	}
	for i := range f.Fields {
		list = append(list, &f.Fields[i].Name)
	}
	for i := range f.Rules {
		list = append(list, &f.Rules[i].Name)
	}
	for i := range f.Checks {
		list = append(list, &f.Checks[i].Name)
	}
	return list
}

func whens(f *api.Form) []*string {
	var list []*string
	for i := range f.Pages {
		list = append(list, &f.Pages[i].When)
	}
	for i := range f.Rules {
		list = append(list, &f.Rules[i].When)
	}
	return list
}

func vals(f *api.Form) []*api.Rat {
	var list []*api.Rat
	for i := range f.Params {
		list = append(list, &f.Params[i].Val)
	}
	return list
}

func exprs(f *api.Form) []*api.Expr {
	var list []*api.Expr
	for i := range f.Rules {
		list = append(list, &f.Rules[i].L, &f.Rules[i].R)
	}
	for i := range f.Checks {
		list = append(list, &f.Checks[i].L, &f.Checks[i].R)
	}
	return list
}

func bools(f *api.Form) []*bool {
	var list []*bool
	for i := range f.Switches {
		list = append(list, &f.Switches[i].On)
	}
	for i := range f.Fields {
		list = append(list, &f.Fields[i].Must)
	}
	return list
}

func strengths(f *api.Form) []*int {
	var list []*int
	for i := range f.Rules {
		list = append(list, &f.Rules[i].Strength)
	}
	return list
}

func compares(f *api.Form) []*int {
	var list []*int
	for i := range f.Checks {
		list = append(list, &f.Checks[i].Cmp)
	}
	return list
}

func scales(f *api.Form) []*int {
	var list []*int
	for i := range f.Fields {
		list = append(list, &f.Fields[i].Scale)
	}
	return list
}

func pages(f *api.Form) []*int {
	var list []*int
	for i := range f.Fields {
		list = append(list, &f.Fields[i].Page)
	}
	for i := range f.Checks {
		list = append(list, &f.Checks[i].Page)
	}
	return list
}

// each is a form with each of some values at each place of a kind.
func each[T any](f api.Form, places func(f *api.Form) []*T, list []T) []api.Form {
	var forms []api.Form
	for i := range places(&f) {
		for _, x := range list {
			forms = append(forms, with(f, func(f *api.Form) { *places(f)[i] = x }))
		}
	}
	return forms
}

func expectMayBe(t *testing.T, forms ...api.Form) {
	t.Helper()
	for _, f := range forms {
		expectPrinted(t, f, formText(f))
	}
}

func expectMayNotBe(t *testing.T, forms ...api.Form) {
	t.Helper()
	for i, f := range forms {
		if s := sheet.Print(f); s != "" || sheet.Is(f) {
			t.Fatalf("the form %d that may not be may be, and is printed as %q", i, short(s))
		}
	}
}

// P6.3
func TestIsOfNames(t *testing.T) {
	expectMayBe(t, each(whole(), names, []string{"a", "z0", "a_", "weak", times("y", api.MaxName)})...)
	expectMayBe(t, each(whole(), whens, []string{"", "a", "z0", "a_", "when", times("y", api.MaxName)})...)
	expectMayNotBe(t, each(whole(), names, append(badNames(), ""))...)
	expectMayNotBe(t, each(whole(), whens, badNames())...)
}

// P6.3
func TestIsOfNumbers(t *testing.T) {
	expectMayBe(t, each(whole(), vals, goodVals())...)
	expectMayNotBe(t, each(whole(), vals, badVals())...)
}

// P6.3
func TestIsOfExpressions(t *testing.T) {
	expectMayBe(t, each(whole(), exprs, goodExprs())...)
	expectMayNotBe(t, each(whole(), exprs, badExprs())...)
}

// P6.3
func TestIsOfWords(t *testing.T) {
	far := []int{math.MinInt, -1 << 32, -256, -2, -1, 256, 1 << 32, math.MaxInt}
	expectMayBe(t, each(whole(), bools, []bool{false, true})...)
	expectMayBe(t, each(whole(), strengths, []int{0, 1, 2, 3})...)
	expectMayBe(t, each(whole(), compares, []int{0, 1, 2})...)
	expectMayBe(t, each(whole(), scales, []int{0, 1, 2, 3, 4, 5, 6, 7, 8, 9})...)
	expectMayNotBe(t, each(whole(), strengths, append(far, 4, 5))...)
	expectMayNotBe(t, each(whole(), compares, append(far, 3, 4))...)
	expectMayNotBe(t, each(whole(), scales, append(far, 10, 11))...)
	expectMayNotBe(t, each(whole(), pages, append(far, 4, 5))...)
}

// P6.3: all rows of pages of a few fields and of a few checks.
func TestIsOfPages(t *testing.T) {
	a := named("a")
	var try func(row []int, count int)
	try = func(row []int, count int) {
		mayBe := slices.IsSorted(row) && !slices.ContainsFunc(row, func(page int) bool { return page < 0 || page >= count })
		ofFields := api.Form{Pages: slices.Repeat([]api.Page{{Name: "g"}}, count)}
		ofChecks := ofFields
		for _, page := range row {
			ofFields.Fields = append(ofFields.Fields, api.Field{Name: "a", Page: page})
			ofChecks.Checks = append(ofChecks.Checks, api.Check{Name: "c", Page: page, L: a, R: a})
		}
		for _, f := range []api.Form{ofFields, ofChecks} {
			if sheet.Is(f) != mayBe {
				t.Fatal("Is of pages", row, "of", count)
			}
			if !mayBe {
				expectNothing(t, f)
			} else {
				expectPrinted(t, f, formText(f))
			}
		}
		if len(row) < 4 {
			for page := -1; page <= count; page++ {
				try(append(slices.Clone(row), page), count)
			}
		}
	}
	for count := range 4 {
		try(nil, count)
	}
	// Fields do not fall behind checks, nor checks behind fields.
	expectMayBe(t, api.Form{
		Pages:  []api.Page{{Name: "g"}, {Name: "h"}},
		Fields: []api.Field{{Name: "a", Page: 1}, {Name: "b", Page: 1}},
		Checks: []api.Check{{Name: "c", Page: 0, L: a, R: a}, {Name: "d", Page: 1, L: a, R: a}},
	}, api.Form{
		Pages:  []api.Page{{Name: "g"}, {Name: "h"}},
		Fields: []api.Field{{Name: "a", Page: 0}, {Name: "b", Page: 1}},
		Checks: []api.Check{{Name: "c", Page: 0, L: a, R: a}, {Name: "d", Page: 0, L: a, R: a}},
	})
	// Without any page there is none of a field or a check.
	expectMayNotBe(t, api.Form{Fields: whole().Fields[:1]}, api.Form{Checks: whole().Checks[:1]}, with(whole(), func(f *api.Form) { f.Pages = f.Pages[:3] }))
}

// others are forms of which none is the whole one.
func others() []api.Form {
	f := whole()
	list := slices.Concat(
		each(f, names, []string{"", "other", "A"}), each(f, whens, []string{"other", "A"}),
		each(f, vals, []api.Rat{small(1, 3), small(-1, 1), small(0, 1), small(5, 2)}),
		each(f, exprs, []api.Expr{{}, named("other"), number("11"), neg(named("a")), add(named("b"), named("a")), {Kind: api.ExprName, Name: "b", Kids: []api.Expr{{}}}}),
		each(f, strengths, []int{-1, 4, 7}), each(f, compares, []int{-1, 3, 7}), each(f, scales, []int{-1, 1, 10}), each(f, pages, []int{-1, 2, 7}),
	)
	for i := range bools(&f) {
		list = append(list, with(f, func(f *api.Form) { *bools(f)[i] = !*bools(f)[i] }))
	}
	for _, change := range []func(f *api.Form){
		func(f *api.Form) { f.Switches = f.Switches[:1] }, func(f *api.Form) { f.Switches = f.Switches[1:] }, func(f *api.Form) { f.Switches = nil }, func(f *api.Form) { f.Switches = append(f.Switches, api.Switch{}) }, func(f *api.Form) { slices.Reverse(f.Switches) },
		func(f *api.Form) { f.Params = f.Params[:1] }, func(f *api.Form) { f.Params = f.Params[1:] }, func(f *api.Form) { f.Params = nil }, func(f *api.Form) { f.Params = append(f.Params, api.Param{}) }, func(f *api.Form) { slices.Reverse(f.Params) },
		func(f *api.Form) { f.Pages = f.Pages[:3] }, func(f *api.Form) { f.Pages = f.Pages[1:] }, func(f *api.Form) { f.Pages = nil }, func(f *api.Form) { f.Pages = append(f.Pages, api.Page{}) }, func(f *api.Form) { slices.Reverse(f.Pages) },
		func(f *api.Form) { f.Fields = f.Fields[:3] }, func(f *api.Form) { f.Fields = f.Fields[1:] }, func(f *api.Form) { f.Fields = nil }, func(f *api.Form) { f.Fields = append(f.Fields, api.Field{}) }, func(f *api.Form) { slices.Reverse(f.Fields) },
		func(f *api.Form) { f.Rules = f.Rules[:3] }, func(f *api.Form) { f.Rules = f.Rules[1:] }, func(f *api.Form) { f.Rules = nil }, func(f *api.Form) { f.Rules = append(f.Rules, api.Rule{}) }, func(f *api.Form) { slices.Reverse(f.Rules) },
		func(f *api.Form) { f.Checks = f.Checks[:3] }, func(f *api.Form) { f.Checks = f.Checks[1:] }, func(f *api.Form) { f.Checks = nil }, func(f *api.Form) { f.Checks = append(f.Checks, api.Check{}) }, func(f *api.Form) { slices.Reverse(f.Checks) },
		func(f *api.Form) { *f = api.Form{} },
		func(f *api.Form) { f.Rules[0].L, f.Rules[0].R = f.Rules[0].R, f.Rules[0].L },
		func(f *api.Form) { f.Checks[0].L, f.Checks[0].R = f.Checks[0].R, f.Checks[0].L },
	} {
		list = append(list, with(f, change))
	}
	return list
}

// P6.3
func TestSameOfForms(t *testing.T) {
	forms := append(others(), whole(), padded(whole(), 2*api.MaxText))
	for i, f := range forms {
		if !sheet.Same(f, copied(f)) || !sheet.Same(f, f) {
			t.Fatal("Same refuses a copy:", f)
		}
		if isWhole := alike(f, whole()); isWhole != sheet.Same(f, whole()) || isWhole != sheet.Same(whole(), f) {
			t.Fatal("Same answers", !isWhole, "of the form", i, f)
		}
	}
	r := rand.New(rand.NewSource(63))
	for range 20000 {
		f, g := forms[r.Intn(len(forms))], forms[r.Intn(len(forms))]
		if sheet.Same(f, g) != alike(f, g) {
			t.Fatal("Same answers", !alike(f, g), "of", f, g)
		}
	}
}

// P6.3: numbers are taken as Norm makes them, nil and empty lists are one.
func TestSameOfWhatIsWrittenOtherwise(t *testing.T) {
	one := []uint32{1}
	for _, row := range [][]api.Rat{
		{small(1, 2), small(2, 4), ratOf(false, []uint32{3, 0}, []uint32{6}), ratOf(false, []uint32{0, 1}, []uint32{0, 2}), ratOf(false, greatest(), append([]uint32{most - 1}, append(slices.Repeat([]uint32{most}, 15), 1)...))},
		{small(0, 1), {}, ratOf(true, nil, one), ratOf(true, nil, nil), ratOf(false, one, nil), ratOf(true, one, []uint32{0}), ratOf(false, []uint32{0, 0}, []uint32{7}), ratOf(false, []uint32{}, []uint32{})},
		{small(-3, 1), small(-6, 2), ratOf(true, []uint32{3}, []uint32{1, 0, 0})},
	} {
		for _, x := range row {
			for _, y := range row {
				for i := range vals(&api.Form{Params: whole().Params}) {
					f, g := each(whole(), vals, []api.Rat{x})[i], each(whole(), vals, []api.Rat{y})[i]
					if !sheet.Same(f, g) {
						t.Fatal("Same refuses two params that are one:", x, y)
					}
				}
				for i := range 16 {
					f, g := each(whole(), exprs, []api.Expr{neg(ratExpr(x))})[i], each(whole(), exprs, []api.Expr{neg(ratExpr(y))})[i]
					if !sheet.Same(f, g) {
						t.Fatal("Same refuses two expressions that are one:", x, y)
					}
				}
			}
		}
	}
	empty := api.Form{Switches: []api.Switch{}, Params: []api.Param{}, Pages: []api.Page{}, Fields: []api.Field{}, Rules: []api.Rule{}, Checks: []api.Check{}}
	if !sheet.Same(empty, api.Form{}) || !sheet.Same(api.Form{}, empty) || !sheet.Same(empty, empty) || !sheet.Same(api.Form{}, api.Form{}) {
		t.Error("Same tells nil lists from empty ones")
	}
	for _, f := range each(whole(), exprs, []api.Expr{named("n")}) {
		g := with(f, func(f *api.Form) {
			for _, e := range exprs(f) {
				if e.Kind == api.ExprName {
					e.Kids, e.Num = []api.Expr{}, ratOf(true, []uint32{}, []uint32{})
				}
			}
		})
		if !sheet.Same(f, g) || !sheet.Same(g, f) {
			t.Fatal("Same tells nil lists of expressions from empty ones")
		}
	}
}

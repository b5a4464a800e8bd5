package check_test

import (
	"reflect"
	"slices"
	"strings"
	"testing"
	"unsafe"

	"pantograph/api"
	"pantograph/check"
)

const spare = 0xa5a5a5a5

// loan is a text in memory that can be changed.
func loan(s string) string {
	if s == "" {
		return ""
	}
	b := []byte(s)
	return unsafe.String(&b[0], len(b))
}

// spoil changes the bytes of a text that was a loan, or an answer that shares
// memory with one.
func spoil(s string) {
	for i := range unsafe.Slice(unsafe.StringData(s), len(s)) {
		unsafe.Slice(unsafe.StringData(s), len(s))[i] = '?'
	}
}

// room is a list of copies with room behind its end, which has marks in it.
func room[T any](list []T, mark T, copyOf func(T) T) []T {
	copies := make([]T, 0, len(list)+2)
	for _, x := range list {
		copies = append(copies, copyOf(x))
	}
	return append(copies, mark, mark)[:len(list)]
}

func roomyRat(a api.Rat) api.Rat {
	same := func(limb uint32) uint32 { return limb }
	return api.Rat{Neg: a.Neg, N: room(a.N, spare, same), D: room(a.D, spare, same)}
}

func roomyExpr(e api.Expr) api.Expr {
	mark := mul(named("x"), named("x"))
	return api.Expr{Kind: e.Kind, Num: roomyRat(e.Num), Name: loan(e.Name), Kids: room(e.Kids, mark, roomyExpr)}
}

// roomy is a copy of a form on loan, whose lists have marked room.
func roomy(f api.Form) api.Form {
	return api.Form{
		Switches: room(f.Switches, api.Switch{Name: "spare"}, func(x api.Switch) api.Switch { x.Name = loan(x.Name); return x }),
		Params:   room(f.Params, api.Param{Name: "spare"}, func(x api.Param) api.Param { return api.Param{Name: loan(x.Name), Val: roomyRat(x.Val)} }),
		Pages:    room(f.Pages, api.Page{Name: "spare"}, func(x api.Page) api.Page { return api.Page{Name: loan(x.Name), When: loan(x.When)} }),
		Fields:   room(f.Fields, api.Field{Name: "spare"}, func(x api.Field) api.Field { x.Name = loan(x.Name); return x }),
		Rules: room(f.Rules, api.Rule{Name: "spare"}, func(x api.Rule) api.Rule {
			return api.Rule{Name: loan(x.Name), Strength: x.Strength, When: loan(x.When), L: roomyExpr(x.L), R: roomyExpr(x.R)}
		}),
		Checks: room(f.Checks, api.Check{Name: "spare"}, func(x api.Check) api.Check {
			return api.Check{Name: loan(x.Name), Page: x.Page, Cmp: x.Cmp, L: roomyExpr(x.L), R: roomyExpr(x.R)}
		}),
	}
}

// all is a list with its spare room.
func all[T any](list []T) []T { return list[:cap(list)] }

// overwriteExpr spoils an expression on loan, with the spare room of its lists.
func overwriteExpr(e api.Expr) {
	spoil(e.Name)
	for _, kid := range e.Kids {
		overwriteExpr(kid)
	}
	for i := range all(e.Kids) {
		all(e.Kids)[i] = named("spoilt")
	}
}

// overwrite does so to a form.
func overwrite(f api.Form) {
	for _, x := range f.Switches {
		spoil(x.Name)
	}
	for _, x := range f.Params {
		spoil(x.Name)
	}
	for _, x := range f.Pages {
		spoil(x.Name)
		spoil(x.When)
	}
	for _, x := range f.Fields {
		spoil(x.Name)
	}
	for _, x := range f.Rules {
		spoil(x.Name)
		spoil(x.When)
		overwriteExpr(x.L)
		overwriteExpr(x.R)
	}
	for _, x := range f.Checks {
		spoil(x.Name)
		overwriteExpr(x.L)
		overwriteExpr(x.R)
	}
}

// handedForms are forms of all errors, and without one.
func handedForms() []api.Form {
	list := []api.Form{{}, form(whole()...)}
	for _, x := range faults() {
		f := form(faultless()...)
		x.change(&f)
		list = append(list, f)
	}
	for _, giver := range givers("a") {
		list = append(list, form(append(whole(), giver)...))
	}
	for _, change := range changes() {
		f := form(whole()...)
		change(&f)
		list = append(list, f)
	}
	return list
}

// unfolded is all that a form can reach: its lists go on to the end of their
// room.
func unfolded(f api.Form) api.Form {
	return api.Form{
		Switches: slices.Clone(all(f.Switches)), Pages: slices.Clone(all(f.Pages)), Fields: slices.Clone(all(f.Fields)),
		Params: room(all(f.Params), api.Param{}, func(x api.Param) api.Param { x.Val = unfoldedRat(x.Val); return x }),
		Rules: room(all(f.Rules), api.Rule{}, func(x api.Rule) api.Rule {
			x.L, x.R = unfoldedExpr(x.L), unfoldedExpr(x.R)
			return x
		}),
		Checks: room(all(f.Checks), api.Check{}, func(x api.Check) api.Check {
			x.L, x.R = unfoldedExpr(x.L), unfoldedExpr(x.R)
			return x
		}),
	}
}

func unfoldedRat(a api.Rat) api.Rat {
	return api.Rat{Neg: a.Neg, N: slices.Clone(all(a.N)), D: slices.Clone(all(a.D))}
}

func unfoldedExpr(e api.Expr) api.Expr {
	e.Num, e.Kids = unfoldedRat(e.Num), room(all(e.Kids), api.Expr{}, unfoldedExpr)
	return e
}

// P7.3
func TestStaticNeitherChangesNorKeeps(t *testing.T) {
	told := 0
	for _, was := range handedForms() {
		f := roomy(was)
		before := unfolded(f)
		err, name := check.Static(f)
		if !reflect.DeepEqual(unfolded(f), before) {
			t.Fatal("Static changes what is handed in:", was)
		}
		want := strings.Clone(name)
		overwrite(f)
		if name != want {
			t.Fatal("Static answers a name of the form that was handed in:", want)
		}
		if name != "" {
			told++
		}
		expectSaid(t, roomy(was), err, want)
	}
	if told < 20 {
		t.Error("too few names are told:", told)
	}
}

// W6: two answers share no memory, W7: nor does one change later.
func TestStaticAnswersNewMemory(t *testing.T) {
	for _, was := range handedForms() {
		f := roomy(was)
		_, first := check.Static(f)
		_, second := check.Static(f)
		want := strings.Clone(first)
		if len(first) > 0 && unsafe.StringData(first) == unsafe.StringData(second) {
			t.Fatal("Static answers one name twice:", first)
		}
		spoil(first)
		if _, third := check.Static(f); second != want || third != want {
			t.Fatal("Static has kept a name:", want)
		}
	}
}

// P7.3
func TestHasAndLinearNeitherChangeNorKeep(t *testing.T) {
	same := func(name string) string { return loan(name) }
	for _, was := range append(few([]api.Expr{number(5, 2), named("x")}), badExprs()...) {
		for _, list := range fieldLists() {
			e, fields := roomyExpr(was), room(list, "x", same)
			before, fieldsBefore := unfoldedExpr(e), slices.Clone(all(fields))
			has, linear := check.Has(e, fields), check.Linear(e, fields)
			if !reflect.DeepEqual(unfoldedExpr(e), before) || !slices.Equal(all(fields), fieldsBefore) {
				t.Fatal("what is handed in is changed:", was, list)
			}
			for i := range fields {
				spoil(fields[i])
				fields[i] = "spoilt"
			}
			overwriteExpr(e)
			// The spare room has a field that is not in the list.
			if has != hasOne(was, list) || linear != isLinear(was, list) {
				t.Fatal("what stands behind the list's end is a field:", was, list)
			}
			if check.Has(was, list) != has || check.Linear(was, list) != linear {
				t.Fatal("calls answer something else the second time:", was, list)
			}
		}
	}
}

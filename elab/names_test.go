package elab_test

import (
	"math/rand"
	"slices"
	"strconv"
	"testing"

	"pantograph/aff"
	"pantograph/api"
	"pantograph/elab"
)

// many are lines of names that differ.
func many(ahead, behind string, count int) []string {
	var list []string
	for i := range count {
		list = append(list, ahead+strconv.Itoa(i)+behind)
	}
	return list
}

// wholeForm is a form that has everything, and no error.
func wholeForm() []string {
	return lines(
		"switch s on", "switch s2 off", "param p 5/2", "param p2 -3",
		"page g", "field a must scale 2", "field b", "check c : a < b * p",
		"page g2 when s2", "field d", "check c2 : a * b = d / a", "page g3", "check c3 : 1 <= 2",
		"rule required r : a = b * p + p2", "rule strong r2 when s2 : d / p = -(a - b)", "rule medium r3 : p * p = 1", "rule weak r4 when s : (p + 1) * (a + b) = 0",
	)
}

// P9.1
func TestFields(t *testing.T) {
	for _, x := range []struct{ text, want []string }{
		{nil, nil}, {lines("switch s on", "param p 1", "rule weak r : p = 1"), nil},
		{lines("page g"), nil}, {lines("page g", "page g2", "page g3"), nil}, {lines("page g", "check c : 1 = 1"), nil},
		{lines("page g", "field a"), lines("a")}, {lines("page g", "field b", "field a", "field c"), lines("b", "a", "c")},
		{lines("page g", "page g2", "field a"), lines("a")}, {lines("page g", "field a", "page g2"), lines("a")}, {lines("page g", "field z", "page g2", "field y"), lines("z", "y")},
		{lines("page g", "field a", "field b", "page g2", "page g3", "field d", "field c", "check k : a = b", "page g4"), lines("a", "b", "d", "c")},
		{lines("page g when s", "field a must", "field b scale 3", "field d must scale 9", "switch s off"), lines("a", "b", "d")},
		{wholeForm(), lines("a", "b", "d")},
		{append(lines("page g"), many("field f", "", api.MaxVars)...), many("f", "", api.MaxVars)}, {append(lines("page g"), many("field f", "", 3*api.MaxVars)...), many("f", "", 3*api.MaxVars)},
		// Of forms with errors of names, too.
		{lines("page g", "field a", "field b", "field a", "field g"), lines("a", "b", "a", "g")},
	} {
		if got := elab.Fields(form(x.text...)); !slices.Equal(got, x.want) {
			t.Error("the fields of", x.text, "are", got, "not", x.want)
		}
	}
}

// P9.1, W5
func TestFieldsOfEmptyForms(t *testing.T) {
	for _, f := range []api.Form{{}, {Fields: []api.Field{}}, {Fields: make([]api.Field, 0, 3), Pages: []api.Page{{Name: "g"}}}} {
		if got := elab.Fields(f); len(got) != 0 {
			t.Error("there are fields:", got)
		}
		if v := elab.Env(f, nil); len(v.Vars) != 0 || len(v.Names) != 0 || len(v.Vals) != 0 {
			t.Error("there are names:", v)
		}
	}
}

// P9.1: of forms that may not be, which have any names.
func TestNamesOfFormsThatMayNotBe(t *testing.T) {
	names := []string{"", "A", "a b", "\xff\x00", "a\n", times("long", 1000), "a", "a", ""}
	var f api.Form
	for i, name := range names {
		f.Fields = append(f.Fields, api.Field{Name: name, Page: 3 - i, Scale: 40})
		f.Params = append(f.Params, api.Param{Name: name + "p", Val: small(4, uint32(i))})
	}
	if got := elab.Fields(f); !slices.Equal(got, names) {
		t.Errorf("the fields are %q, not %q", got, names)
	}
	expectEnv(t, f, nil)
	expectEnv(t, f, wholes(1, 2))
}

func expectEnv(t *testing.T, f api.Form, params []api.Rat) {
	t.Helper()
	var vars, names []string
	for _, x := range f.Fields {
		vars = append(vars, x.Name)
	}
	for _, x := range f.Params {
		names = append(names, x.Name)
	}
	v := elab.Env(f, params)
	if !slices.Equal(v.Vars, vars) || !slices.Equal(v.Names, names) || !slices.EqualFunc(v.Vals, params, alike) {
		t.Fatal("names mean", v, "not", vars, names, params)
	}
}

// P9.1: params are what is handed in, of any count, as they are written.
func TestEnv(t *testing.T) {
	rough := slices.Concat(roughRats(), largeRats())
	for _, text := range [][]string{
		nil, wholeForm(), lines("param p 1"), lines("param p 1", "param q 2", "param o 0"), lines("page g", "field a"), lines("page g", "field a", "field b", "param z 1", "param y 2"), lines("switch s on", "page g"),
		append(many("param p", " 1", 300), append(lines("page g"), many("field f", "", 200)...)...),
		// A name may stand twice.
		lines("param a 1", "page g", "field a", "param a 2", "field a", "param b 3"),
	} {
		f := form(text...)
		for count := range len(f.Params) + 3 {
			expectEnv(t, f, slices.Repeat(wholes(7), count))
			expectEnv(t, f, rough[:min(count, len(rough))])
		}
		for _, params := range [][]api.Rat{nil, {}, make([]api.Rat, 0, 3), rough, fineRats(), wholes(1, 2, 3, 4, 5), {{}}, {{}, whole(1)}, {small(4, 6), small(0, 0)}} {
			expectEnv(t, f, params)
		}
		for _, a := range rough {
			expectEnv(t, f, []api.Rat{a})
			expectEnv(t, f, []api.Rat{whole(1), a, whole(2)})
		}
	}
}

// P9.1: what the names of a form mean to chapter 8.
func TestEnvIsReadByNames(t *testing.T) {
	f := form(wholeForm()...)
	at := wholes(10, 20, 30)
	for _, x := range []struct {
		text   string
		params []api.Rat
		want   string
	}{
		{"a", nil, "10"}, {"b", nil, "20"}, {"d", nil, "30"}, {"p", nil, "0"}, {"p2", nil, "0"},
		// The form's own numbers do not count.
		{"p", wholes(7), "7"}, {"p2", wholes(7), "0"}, {"p", wholes(7, 8), "7"}, {"p2", wholes(7, 8), "8"}, {"p2", wholes(7, 8, 9), "8"},
		{"a * p - p2", []api.Rat{small(6, 4), small(5, 0)}, "15"}, {"p / p2", []api.Rat{small(6, 4), small(-2, 2)}, "-3/2"},
	} {
		got, err := aff.Value(tree(x.text), elab.Env(f, x.params), at)
		if err != api.OK || value(got).RatString() != x.want {
			t.Error(x.text, "is", got, err, "not", x.want)
		}
	}
	for _, name := range []string{"s", "g", "r", "c", "none"} {
		if _, err := aff.Value(named(name), elab.Env(f, wholes(1, 2)), at); err != api.ErrName {
			t.Error(name, "is known")
		}
	}
}

// P9.1
func TestNamesOfRandomForms(t *testing.T) {
	m := &maker{rand.New(rand.NewSource(91)), 3, 3}
	for range 500 {
		f := m.form()
		expectEnv(t, f, m.params(f))
		expectEnv(t, f, append(m.params(f), roughRats()[m.Intn(len(roughRats()))]))
		if !slices.Equal(elab.Fields(f), elab.Env(f, nil).Vars) {
			t.Fatal("the variables are not the fields:", f)
		}
	}
}

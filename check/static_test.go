package check_test

import (
	"math"
	"slices"
	"strconv"
	"strings"
	"testing"

	"pantograph/api"
	"pantograph/check"
	"pantograph/sheet"
)

// whole is a form that has everything, and no error.
func whole() []string {
	return []string{
		"switch s on", "switch s2 off", "param p 5/2", "param p2 0",
		"page g", "field a must scale 2", "field b", "check c : a < b * p",
		"page g2 when s", "field d", "check c2 : a * b = d / a", "page g3", "check c3 : 1 <= 2",
		"rule required r : a = b * p + p2", "rule strong r2 when s2 : d / p = -(a - b)", "rule medium r3 : 1 = p * p / p2", "rule weak r4 when s : (p + 1) * (a + b) = 0",
	}
}

func lines(list ...string) []string { return list }

// P7.2
func TestStaticOfFormsWithoutErrors(t *testing.T) {
	for _, text := range [][]string{
		nil, whole(), lines("switch s on"), lines("param p 1"), lines("page g"), lines("page g", "field a"), lines("rule weak r : 1 = 2"), lines("page g", "check c : 1 < 2"),
		// Names may be the words of lines.
		lines("switch when on", "param must 1", "page page when when", "field field", "check check : field < must", "rule weak rule when when : field = must"),
		// Products and divisors of checks may have fields.
		lines("page g", "field a", "field b", "check c : a * b = a / b", "check c2 : 1 / a < a * a"),
		// A param is no field.
		lines("page g", "field a", "param p 0", "rule weak r : p * p * a / p / p = 1 / p"),
		// A switch stands ahead or behind, and for as many as there are.
		lines("page g when s", "page g2 when s", "rule weak r when s : 1 = 1", "rule weak r2 when s : 1 = 1", "switch s off"),
		// A name stands more than once where it is said.
		lines("page g", "field a", "rule weak r : a + a = a - a", "rule weak r2 : a + a = a - a", "check c : a = a"),
	} {
		expectSaid(t, form(text...), api.OK, "")
	}
	expectSaid(t, api.Form{Switches: []api.Switch{}, Params: []api.Param{}, Pages: []api.Page{}, Fields: []api.Field{}, Rules: []api.Rule{}, Checks: []api.Check{}}, api.OK, "")
	expectSaid(t, form("page g", "field a", "field b", "rule weak r : a * b = 0"), api.ErrLinear, "r")
}

// changes make a form one that may not be.
func changes() []func(f *api.Form) {
	one := []uint32{1}
	list := []func(f *api.Form){
		func(f *api.Form) { f.Fields[2].Page = 0; f.Fields[1].Page = 1 }, func(f *api.Form) { f.Fields[2].Page = 9 }, func(f *api.Form) { f.Fields[0].Page = -1 },
		func(f *api.Form) { f.Checks[0].Page = 1; f.Checks[1].Page = 0 }, func(f *api.Form) { f.Checks[2].Page = 9 }, func(f *api.Form) { f.Pages = nil },
		func(f *api.Form) { f.Fields[0].Scale = -1 }, func(f *api.Form) { f.Fields[0].Scale = api.MaxScale + 1 }, func(f *api.Form) { f.Rules[3].Strength = api.Stay }, func(f *api.Form) { f.Rules[0].Strength = -1 },
		func(f *api.Form) { f.Checks[0].Cmp = 3 }, func(f *api.Form) { f.Checks[0].Cmp = math.MinInt },
		func(f *api.Form) { f.Switches = append(f.Switches, api.Switch{}) }, func(f *api.Form) { f.Params = append(f.Params, api.Param{Name: "z"}) }, func(f *api.Form) { f.Rules = append(f.Rules, api.Rule{Name: "z"}) },
		func(f *api.Form) { f.Switches = slices.Repeat([]api.Switch{{Name: "z"}}, api.MaxText/13+1) },
	}
	for _, name := range []string{"", "A", "aB", "1", "_", "a b", "a\n", "a:", "\xff", times("a", api.MaxName+1), times("a", api.MaxText)} {
		list = append(list,
			func(f *api.Form) { f.Switches[1].Name = name }, func(f *api.Form) { f.Params[1].Name = name }, func(f *api.Form) { f.Pages[1].Name = name }, func(f *api.Form) { f.Fields[1].Name = name }, func(f *api.Form) { f.Rules[1].Name = name }, func(f *api.Form) { f.Checks[1].Name = name },
			func(f *api.Form) { f.Rules[0].L = named(name) }, func(f *api.Form) { f.Checks[0].R = add(number(1, 1), named(name)) },
		)
		if name != "" {
			list = append(list, func(f *api.Form) { f.Pages[0].When = name }, func(f *api.Form) { f.Rules[0].When = name })
		}
	}
	for _, val := range []api.Rat{{}, {N: one}, {N: one, D: []uint32{0}}, {D: []uint32{2}}, {N: []uint32{2}, D: []uint32{4}}, {Neg: true, D: one}, {N: []uint32{1, 0}, D: one}, {N: slices.Repeat(one, api.MaxLimbs+1), D: one}} {
		list = append(list, func(f *api.Form) { f.Params[0].Val = val }, func(f *api.Form) { f.Params[1].Val = val })
	}
	for _, e := range badExprs() {
		list = append(list, func(f *api.Form) { f.Rules[0].L = e }, func(f *api.Form) { f.Rules[3].R = e }, func(f *api.Form) { f.Checks[0].L = neg(e) }, func(f *api.Form) { f.Checks[2].R = mul(named("a"), e) })
	}
	return list
}

// P7.2: a form that may not be is ErrForm, whatever else is wrong in it.
func TestStaticOfFormsThatMayNotBe(t *testing.T) {
	others := [][]string{nil, lines("switch s on"), lines("page z when none"), lines("rule weak z : none = 1"), lines("rule weak z : a * b = 1"), many("rule weak z", " : 1 = 1", api.MaxVars)}
	for _, other := range others {
		for _, change := range changes() {
			f := form(append(whole(), other...)...)
			change(&f)
			if sheet.Is(f) {
				t.Fatal("the test's form may be:", f)
			}
			expectSaid(t, f, api.ErrForm, "")
		}
	}
}

// many are lines of names that differ.
func many(ahead, behind string, count int) []string {
	var list []string
	for i := range count {
		list = append(list, ahead+strconv.Itoa(i)+behind)
	}
	return list
}

// P7.2: at the limits.
func TestStaticOfManyFieldsAndRules(t *testing.T) {
	const most = api.MaxVars
	fields := func(count int) []string { return append(lines("page g"), many("field f", "", count)...) }
	rules := func(count int) []string { return many("rule weak r", " : 1 = 2", count) }
	for _, c := range []struct {
		fields, rules int
		err           api.Errno
	}{
		{most, 0, api.OK}, {0, most, api.OK}, {most, most, api.OK}, {most - 1, most - 1, api.OK},
		{most + 1, 0, api.ErrLong}, {0, most + 1, api.ErrLong}, {most + 1, most, api.ErrLong}, {most, most + 1, api.ErrLong}, {most + 1, most + 1, api.ErrLong}, {4 * most, 0, api.ErrLong}, {0, 4 * most, api.ErrLong},
	} {
		expectSaid(t, form(append(fields(c.fields), rules(c.rules)...)...), c.err, "")
	}
	// On several pages, too.
	expectSaid(t, form(slices.Concat(fields(most/2), lines("page h"), many("field h", "", most/2))...), api.OK, "")
	expectSaid(t, form(slices.Concat(fields(most/2), lines("page h"), many("field h", "", most/2+1))...), api.ErrLong, "")
	// Of the other kinds there may be more.
	for _, list := range [][]string{many("switch s", " on", 3*most), many("param p", " 1", 3*most), many("page q", "", 3*most), append(lines("page q"), many("check c", " : 1 = 1", 3*most)...), many("page q", " when s", 3*most)} {
		expectSaid(t, form(slices.Concat(lines("switch s on"), list, fields(most), rules(most))...), api.OK, "")
	}
	// All of them count.
	long := slices.Concat(many("switch s", " on", 200), many("param p", " 1", 200), many("page g", "", 200), many("check c", " : 1 = 1", 200))
	expectSaid(t, form(append(long, "page z when s199", "rule weak z2 when s198 : p199 = p198")...), api.OK, "")
	for _, name := range []string{"s199", "p199", "g199", "c199"} {
		expectSaid(t, form(append(long, "field "+name)...), api.ErrName, name)
	}
	expectSaid(t, form(append(long, "page z when s200")...), api.ErrName, "s200")
	expectSaid(t, form(append(long, "check z : p199 = p200")...), api.ErrName, "p200")
	full := slices.Concat(fields(most), rules(most-1))
	expectSaid(t, form(append(full, "rule weak last : f0 = f63")...), api.OK, "")
	expectSaid(t, form(append(full, "rule weak last : f0 * f63 = 1")...), api.ErrLinear, "last")
	expectSaid(t, form(append(full, "rule weak last : f0 = f64")...), api.ErrName, "f64")
	expectSaid(t, form(append(full, "rule weak f63 : f0 = 1")...), api.ErrName, "f63")
	expectSaid(t, form(append(full, "rule weak last when none : f0 = 1")...), api.ErrName, "none")
}

// givers are lines that give a name, of each kind, in the order of P7.2.
func givers(name string) []string {
	return lines("switch "+name+" on", "param "+name+" 1", "page "+name, "field "+name, "rule weak "+name+" : 1 = 1", "check "+name+" : 1 = 1")
}

// P7.2: a name twice within each kind, and across each two.
func TestStaticOfNamesThatStandTwice(t *testing.T) {
	for i, one := range givers("twin") {
		for _, other := range givers("twin") {
			expectSaid(t, form("page g", one, other), api.ErrName, "twin")
			expectSaid(t, form(append(whole(), one, other)...), api.ErrName, "twin")
			expectSaid(t, form("page g", one, givers("lone")[i], other), api.ErrName, "twin")
		}
		expectSaid(t, form("page g", one), api.OK, "")
		expectSaid(t, form("page g", one, givers("lone")[i]), api.OK, "")
	}
	for _, name := range []string{"s", "s2", "p", "p2", "g", "g2", "g3", "a", "b", "d", "r", "r2", "r3", "r4", "c", "c2", "c3"} {
		for _, giver := range givers(name) {
			expectSaid(t, form(append(whole(), giver)...), api.ErrName, name)
			expectSaid(t, form(append(lines("page first", giver), whole()...)...), api.ErrName, name)
		}
	}
	// What is alike is not one.
	n := times("n", api.MaxName)
	expectSaid(t, form("switch n on", "switch nn on", "switch n_ on", "switch n1 on", "switch n10 on", "switch "+n+" on", "switch "+n[1:]+" on", "switch "+n[1:]+"m on"), api.OK, "")
	expectSaid(t, form("switch "+n+" on", "param "+n+" 1"), api.ErrName, n)
}

// P7.2: of names that stand twice, the first that stood ahead already.
func TestStaticOfTwoNamesThatStandTwice(t *testing.T) {
	for _, c := range []struct {
		name string
		text []string
	}{
		{"x", lines("switch x on", "switch x on", "switch y on", "switch y on")},
		{"y", lines("switch x on", "switch y on", "switch y on", "switch x on")},
		{"x", lines("switch x on", "switch y on", "switch x on", "switch y on")},
		{"x", lines("switch x on", "switch x on", "switch x on", "param y 1", "page y")},
		// By kinds, in whatever lines they stand.
		{"y", lines("param x 1", "param x 1", "switch y on", "switch y on")},
		{"y", lines("page x", "page x", "param y 1", "param y 1")},
		{"y", lines("page g", "field x", "field x", "page y", "page y")},
		{"y", lines("page g", "rule weak x : 1 = 1", "rule weak x : 1 = 1", "field y", "field y")},
		{"y", lines("page g", "check x : 1 = 1", "check x : 1 = 1", "rule weak y : 1 = 1", "rule weak y : 1 = 1")},
		{"y", lines("page g", "check x : 1 = 1", "switch x on", "switch y on", "rule weak y : 1 = 1")},
		{"y", lines("page g", "check x : 1 = 1", "field x", "field y", "rule weak y : 1 = 1")},
		{"x", lines("page g", "field x", "page h", "field y", "field y", "field x", "page x")},
	} {
		expectSaid(t, form(c.text...), api.ErrName, c.name)
	}
	xs, ys := givers("x"), givers("y")
	for first := range xs {
		for last := range xs {
			for _, y := range ys {
				for _, other := range ys {
					f := form("page g", xs[first], y, other, xs[last])
					err, name := said(f)
					expectSaid(t, f, err, name)
				}
			}
		}
	}
}

// P7.2
func TestStaticOfWhens(t *testing.T) {
	for _, name := range []string{"s", "s2"} {
		expectSaid(t, form(append(whole(), "page z when "+name)...), api.OK, "")
		expectSaid(t, form(append(whole(), "rule weak z when "+name+" : 1 = 1")...), api.OK, "")
	}
	// Params, pages, fields, rules, checks; itself; nothing of the form.
	for _, name := range []string{"p", "p2", "g", "g2", "a", "d", "r", "r4", "c", "c3", "z", "none", "s3", "s_", "ss"} {
		expectSaid(t, form(append(whole(), "page z when "+name)...), api.ErrName, name)
		expectSaid(t, form(append(lines("page z when "+name), whole()...)...), api.ErrName, name)
		expectSaid(t, form(append(whole(), "rule weak z when "+name+" : 1 = 1")...), api.ErrName, name)
		expectSaid(t, form(append(lines("rule weak z when "+name+" : 1 = 1"), whole()...)...), api.ErrName, name)
	}
	expectSaid(t, form("page g when s"), api.ErrName, "s")
	expectSaid(t, form("rule weak r when s : 1 = 1"), api.ErrName, "s")
	// Pages ahead of rules, each in their order.
	expectSaid(t, form("rule weak r when n1 : 1 = 1", "rule weak r2 when n2 : 1 = 1", "page g when n3", "page g2 when n4"), api.ErrName, "n3")
	expectSaid(t, form("rule weak r when n2 : 1 = 1", "rule weak r2 when n1 : 1 = 1", "page g"), api.ErrName, "n2")
	expectSaid(t, form("switch s on", "page g when s", "page g2", "page g3 when z", "page g4 when a"), api.ErrName, "z")
}

// places are expressions in which a name stands.
func places() []string {
	return []string{"?", "-?", "?+1", "1+?", "?-b", "b-?", "?*2", "2*?", "?/2", "p+(1-(2+-?))", "p*(a+b)-(3-?/p)", "a+a+a+a+a+a+?", "?+?", times("-", 31) + "?"}
}

// P7.2
func TestStaticOfNamesInExpressions(t *testing.T) {
	for _, place := range places() {
		for _, name := range []string{"a", "b", "d", "p", "p2", "s", "s2", "g", "g3", "r", "r4", "c", "c3", "z", "none", "aa", "a_", "a1", "p3"} {
			e := strings.ReplaceAll(place, "?", name)
			err, told := api.ErrName, name
			if slices.Contains([]string{"a", "b", "d", "p", "p2"}, name) {
				err, told = api.OK, ""
			}
			for _, line := range []string{"check z : " + e + " = 1", "check z : 1 < " + e, "check z : " + e + " <= " + e, "rule weak z : " + e + " = 1", "rule weak z : 1 = " + e, "rule weak z when s : " + e + " = " + e} {
				expectSaid(t, form(append(whole(), line)...), err, told)
				expectSaid(t, form(append(lines("page first", line), whole()...)...), err, told)
			}
		}
	}
	// In a divisor, too.
	expectSaid(t, form("page g", "check c : 1 / n1 = 1"), api.ErrName, "n1")
	expectSaid(t, form("rule weak r : 1 / n1 = 1"), api.ErrName, "n1")
	// As they stand from the left, L ahead of R, checks ahead of rules.
	for _, c := range []struct {
		name string
		text []string
	}{
		{"n2", lines("page g", "check c : n2 * n1 = n3")},
		{"n3", lines("page g", "check c : (2 - -n3) * n1 = n2 + n1")},
		{"n2", lines("page g", "check c : 1 = 2 / (n2 - n1)")},
		{"n2", lines("page g", "field a", "check c : a = a + n2", "check c2 : n1 = 1")},
		{"n1", lines("page g", "check c : 1 = n1", "check c2 : n2 = 1")},
		{"n2", lines("rule weak r : n2 - n1 = n3")},
		{"n3", lines("rule weak r : 1 = n3 * n1")},
		{"n2", lines("rule weak r : 1 = n2", "rule weak r2 : n1 = 1")},
		{"n2", lines("rule weak r : n1 = n1", "page g", "check c : 1 = n2")},
		{"n2", lines("rule weak r : n1 = n1", "page g", "check c : 1 = 1", "page g2", "check c2 : 1 = n2")},
		{"c", lines("page g", "check c : c = r", "rule weak r : r = c")},
	} {
		expectSaid(t, form(c.text...), api.ErrName, c.name)
	}
}

// P7.2
func TestStaticOfRulesThatAreNotLinear(t *testing.T) {
	crooked := []string{"a*b", "a*a", "1/a", "0*a*b", "a*b-a*b", "a/a", "1/(a-a+1)", "0/b", "-(p*(a+1)*(b-2))", "p/(p+d)", "1+(2+(3+a*d))"}
	straight := []string{"a", "a+b*2", "p*a/p2", "p*p", "1/p", "a/0", "(a+b)*(p+1)", "1"}
	for _, e := range crooked {
		for _, other := range straight {
			expectSaid(t, form(append(whole(), "rule weak z : "+e+" = "+other)...), api.ErrLinear, "z")
			expectSaid(t, form(append(whole(), "rule required z : "+other+" = "+e)...), api.ErrLinear, "z")
			expectSaid(t, form(append(lines("rule weak z when s2 : "+other+" = "+e), whole()...)...), api.ErrLinear, "z")
			expectSaid(t, form(append(whole(), "check z : "+e+" = "+other, "check z2 : "+other+" < "+e)...), api.OK, "")
			expectSaid(t, form(append(whole(), "rule weak z : "+other+" = "+other)...), api.OK, "")
		}
		expectSaid(t, form(append(whole(), "rule weak z : "+e+" = "+e)...), api.ErrLinear, "z")
		// The first of them, in their order.
		expectSaid(t, form(append(whole(), "rule weak z : "+e+" = 1", "rule weak y : "+e+" = 1")...), api.ErrLinear, "z")
		expectSaid(t, form(append(whole(), "rule weak z : 1 = "+e, "rule weak y : "+e+" = 1")...), api.ErrLinear, "z")
		expectSaid(t, form(append(whole(), "rule weak z : 1 = a", "rule weak y : 1 = "+e, "rule weak x : a = "+e)...), api.ErrLinear, "y")
	}
	// A field of any page is one.
	expectSaid(t, form("page g", "field a", "page g2", "page g3 when s", "field b", "switch s off", "rule weak r : a * b = 0"), api.ErrLinear, "r")
	expectSaid(t, form("rule weak r : a * b = 0", "param b 1", "page g", "field a"), api.OK, "")
}

// fault is a change to a form, and what Static answers then.
type fault struct {
	change func(f *api.Form)
	err    api.Errno
	name   string
}

func faultless() []string {
	return lines("switch s on", "param p 1", "page g when s", "field a", "check c : a = p", "page g2 when s", "field b", "check c2 : a = p", "rule weak r2 when s : a = p", "rule weak r when s : a = p")
}

// faults are changes to the faultless form, in the order in which Static tells
// them.
func faults() []fault {
	more := func(e *api.Expr, name string) { *e = add(*e, named(name)) }
	return []fault{
		{func(f *api.Form) { f.Params[0].Val = api.Rat{} }, api.ErrForm, ""},
		{func(f *api.Form) {
			f.Rules = append(f.Rules, form(many("rule weak z", " : 1 = 1", api.MaxVars)...).Rules...)
		}, api.ErrLong, ""},
		{func(f *api.Form) { f.Switches = append(f.Switches, api.Switch{Name: "s"}) }, api.ErrName, "s"},
		{func(f *api.Form) { f.Fields = append(f.Fields, api.Field{Name: "g", Page: 1}) }, api.ErrName, "g"},
		{func(f *api.Form) { f.Rules = append(f.Rules, api.Rule{Name: "a", L: number(1, 1), R: number(1, 1)}) }, api.ErrName, "a"},
		{func(f *api.Form) {
			f.Checks = append(f.Checks, api.Check{Name: "p", Page: 1, L: number(1, 1), R: number(1, 1)})
		}, api.ErrName, "p"},
		{func(f *api.Form) { f.Pages[0].When = "w2" }, api.ErrName, "w2"},
		{func(f *api.Form) { f.Pages[1].When = "w4" }, api.ErrName, "w4"},
		{func(f *api.Form) { f.Rules[0].When = "w3" }, api.ErrName, "w3"},
		{func(f *api.Form) { f.Rules[1].When = "w1" }, api.ErrName, "w1"},
		{func(f *api.Form) { more(&f.Checks[0].L, "n8") }, api.ErrName, "n8"},
		{func(f *api.Form) { more(&f.Checks[0].R, "n3") }, api.ErrName, "n3"},
		{func(f *api.Form) { more(&f.Checks[1].L, "n6") }, api.ErrName, "n6"},
		{func(f *api.Form) { more(&f.Checks[1].R, "n1") }, api.ErrName, "n1"},
		{func(f *api.Form) { more(&f.Rules[0].L, "n5") }, api.ErrName, "n5"},
		{func(f *api.Form) { more(&f.Rules[0].R, "n4") }, api.ErrName, "n4"},
		{func(f *api.Form) { more(&f.Rules[1].L, "n7") }, api.ErrName, "n7"},
		{func(f *api.Form) { more(&f.Rules[1].R, "n2") }, api.ErrName, "n2"},
		{func(f *api.Form) { f.Rules[0].R = sub(f.Rules[0].R, mul(named("a"), named("b"))) }, api.ErrLinear, "r2"},
		{func(f *api.Form) { f.Rules[1].L = sub(f.Rules[1].L, quot(named("a"), named("b"))) }, api.ErrLinear, "r"},
	}
}

// P7.2: of any three errors, the first in the order of the promise.
func TestStaticTellsTheFirstError(t *testing.T) {
	list := faults()
	for i, first := range list {
		for k := i; k < len(list); k++ {
			for _, last := range list[k:] {
				f := form(faultless()...)
				expectSaid(t, f, api.OK, "")
				last.change(&f)
				list[k].change(&f)
				first.change(&f)
				expectSaid(t, f, first.err, first.name)
			}
		}
	}
}

// W1: forms far beyond what may be.
func TestStaticOfGreatForms(t *testing.T) {
	ring := make([]api.Expr, 2)
	ring[0], ring[1] = node(api.ExprAdd, ring...), node(api.ExprMul, ring...)
	ring[0].Kids, ring[1].Kids = ring, ring
	deep := chain(api.ExprMul, 1<<16-2, named("a"), named("a"), true)
	for _, f := range []api.Form{
		{Switches: make([]api.Switch, 1<<17)}, {Params: make([]api.Param, 1<<17)}, {Pages: make([]api.Page, 1<<17)}, {Fields: make([]api.Field, 1<<17)}, {Rules: make([]api.Rule, 1<<17)}, {Checks: make([]api.Check, 1<<17)},
		{Pages: slices.Repeat([]api.Page{{Name: "g"}}, 1<<17)}, {Rules: slices.Repeat([]api.Rule{{Name: "r", L: named("a"), R: named("a")}}, 1<<17)},
		{Rules: []api.Rule{{Name: "r", L: deep, R: deep}}}, {Rules: []api.Rule{{Name: "r", L: ring[0], R: ring[1]}}},
		{Pages: []api.Page{{Name: "g", When: times("w", 1<<17)}}}, {Switches: []api.Switch{{Name: times("s", 1<<17)}}},
	} {
		if err, name := check.Static(f); err != api.ErrForm || name != "" {
			t.Fatal("Static answers", err, name, "of a form that is too great")
		}
	}
}

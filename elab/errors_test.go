package elab_test

import (
	"math"
	"slices"
	"testing"

	"pantograph/api"
	"pantograph/check"
	"pantograph/elab"
	"pantograph/sheet"
)

// asked is what Elab is handed in.
type asked struct {
	f      api.Form
	params []api.Rat
	on     []bool
}

func own(text ...string) asked {
	f := form(text...)
	return asked{f, valsOf(f), statesOf(f)}
}

func (x asked) expect(t *testing.T, want string) {
	t.Helper()
	expectOutcome(t, x.f, x.params, x.on, want)
}

// P9.2: each of chapter 7's errors, and its name.
func TestErrorsOfChapter7(t *testing.T) {
	for _, x := range []struct {
		want string
		more []string
	}{
		{"long", append(lines("page h"), many("field h", "", api.MaxVars)...)}, {"long", many("rule weak z", " : 1 = 1", api.MaxVars)},
		{"name s", lines("switch s on")}, {"name s", lines("param s 1")}, {"name p", lines("page p")}, {"name g", lines("page h", "field g")}, {"name a", lines("rule weak a : 1 = 1")}, {"name r", lines("page h", "check r : 1 = 1")}, {"name c", lines("page h", "check c : 1 = 1")},
		{"name w", lines("page h when w")}, {"name p", lines("page h when p")}, {"name w", lines("rule weak z when w : 1 = 1")}, {"name a", lines("rule weak z when a : 1 = 1")},
		{"name n", lines("rule weak z : n = 1")}, {"name n", lines("rule weak z : 1 = a * n")}, {"name s", lines("rule weak z : s = 1")}, {"name r", lines("rule weak z when s2 : 1 = r")}, {"name n", lines("page h", "check z : n = 1")}, {"name g", lines("page h", "check z : 1 = g")},
		{"linear z", lines("rule weak z : a * b = 1")}, {"linear z", lines("rule weak z : 1 = p / a")}, {"linear z", lines("rule weak z when s2 : 0 * a * b = 1")}, {"linear z", lines("rule weak z when s : 1 = a * b - a * b")},
	} {
		own(append(wholeForm(), x.more...)...).expect(t, x.want)
	}
}

// wrongForms are forms that may not be.
func wrongForms() []api.Form {
	var list []api.Form
	for _, change := range []func(f *api.Form){
		func(f *api.Form) { f.Switches[0].Name = "" }, func(f *api.Form) { f.Switches[1].Name = "S" }, func(f *api.Form) { f.Params[0].Name = "p p" }, func(f *api.Form) { f.Pages[0].Name = "\xff" }, func(f *api.Form) { f.Fields[2].Name = times("x", api.MaxName+1) }, func(f *api.Form) { f.Rules[1].Name = "1" }, func(f *api.Form) { f.Checks[0].Name = "_" },
		func(f *api.Form) { f.Pages[1].When = "X" }, func(f *api.Form) { f.Rules[0].When = "s s" }, func(f *api.Form) { f.Rules[0].When = "\x00" }, func(f *api.Form) { f.Pages = nil }, func(f *api.Form) { f.Fields[0].Page = -1 }, func(f *api.Form) { f.Fields[0].Page = 1 }, func(f *api.Form) { f.Checks[1].Page = 0; f.Checks[0].Page = 1 },
		func(f *api.Form) { f.Fields[1].Scale = api.MaxScale + 1 }, func(f *api.Form) { f.Rules[0].Strength = api.Stay }, func(f *api.Form) { f.Rules[1].Strength = -1 }, func(f *api.Form) { f.Rules[2].Strength = math.MaxInt }, func(f *api.Form) { f.Checks[0].Cmp = 3 }, func(f *api.Form) { f.Switches = slices.Repeat(f.Switches, api.MaxText) },
		func(f *api.Form) { f.Rules[0].L = api.Expr{} }, func(f *api.Form) { f.Rules[3].R = api.Expr{} }, func(f *api.Form) { f.Rules[1].L.Kids = nil }, func(f *api.Form) { f.Rules[1].R.Kids = f.Rules[1].L.Kids }, func(f *api.Form) { f.Rules[0].R = named("") }, func(f *api.Form) { f.Checks[0].R.Kind = 8 },
		func(f *api.Form) {
			for range api.MaxDeep {
				f.Rules[0].L = node(api.ExprNeg, f.Rules[0].L)
			}
		},
	} {
		f := form(wholeForm()...)
		change(&f)
		list = append(list, f)
	}
	for _, a := range slices.Concat(roughRats(), largeRats()) {
		f, g := form(wholeForm()...), form(wholeForm()...)
		f.Params[1].Val, g.Rules[2].R.Num = a, a
		list = append(list, f)
		if !sheet.Is(g) {
			list = append(list, g)
		}
	}
	return list
}

// P9.2, W1: wrong inputs.
func TestFormsThatMayNotBe(t *testing.T) {
	for _, f := range wrongForms() {
		if sheet.Is(f) {
			t.Fatal("the test's form may be:", f)
		}
		for _, params := range [][]api.Rat{wholes(1, 2), nil, {{}, {}}, largeRats()} {
			for _, on := range [][]bool{{true, true}, {false, false}, nil, make([]bool, 9)} {
				expectOutcome(t, f, params, on, "form")
			}
		}
	}
}

// P9.2: a form's error and its name are chapter 7's.
func TestErrorsAreChapter7s(t *testing.T) {
	for _, f := range wrongForms() {
		err, name := check.Static(f)
		if a, gotName, got := elab.Elab(f, valsOf(f), statesOf(f)); got != err || gotName != name || !isNothing(a) {
			t.Fatal("Elab answers", a, gotName, got, "not", err, name)
		}
	}
}

// P9.2: params and on are as many as the form has.
func TestCountsOfParamsAndSwitches(t *testing.T) {
	for params := range 4 {
		for switches := range 4 {
			f := form(append(append(many("param p", " 1", params), many("switch s", " on", switches)...), "rule weak r : 1 = 0")...)
			for count := range 6 {
				for states := range 6 {
					want := "arg"
					if count == params && states == switches {
						want = "0 weak 1"
					}
					expectOutcome(t, f, slices.Repeat(wholes(1), count), make([]bool, states), want)
					if count == 0 {
						expectOutcome(t, f, nil, make([]bool, states), want)
						expectOutcome(t, f, make([]api.Rat, 0, 4), make([]bool, states), want)
					}
					if states == 0 {
						expectOutcome(t, f, slices.Repeat(wholes(1), count), nil, want)
						expectOutcome(t, f, slices.Repeat(wholes(1), count), make([]bool, 0, 4), want)
					}
				}
			}
		}
	}
	f := form(wholeForm()...)
	for count := range 40 {
		if count != 2 {
			expectOutcome(t, f, slices.Repeat(wholes(1), count), []bool{true, true}, "arg")
			expectOutcome(t, f, wholes(1, 2), make([]bool, count), "arg")
		}
	}
}

// P9.2: params are normal and not Large.
func TestNumbersOfParams(t *testing.T) {
	text := append(many("param p", " 1", 3), "page g", "field a", "rule weak r : p0 + p1 - p2 = a")
	for place := range 3 {
		params := func(a api.Rat) []api.Rat {
			list := wholes(0, 0, 0)
			list[place] = a
			return list
		}
		for _, a := range slices.Concat(roughRats(), largeRats()) {
			expectOutcome(t, form(text...), params(a), nil, "arg")
			// Also where no rule asks for it, and where there is none.
			expectOutcome(t, form(text[:5]...), params(a), nil, "arg")
		}
		for _, a := range fineRats() {
			f := form(text...)
			want, _, _ := said(f, params(a), nil)
			expectOutcome(t, f, params(a), nil, inWords(f, want))
			if len(want.Cons) != 1 {
				t.Fatal("the test's rule errs")
			}
		}
	}
}

// P9.2: a switch that is off, or a rule's error, makes no difference to what
// may not be handed in.
func TestArgumentsAreAheadOfRules(t *testing.T) {
	for _, rule := range lines("1 = 1", "1 / 0 = a", "a = 1 / p", "a = m * m", "a * m * m = 1") {
		for _, x := range []struct {
			params []api.Rat
			on     []bool
		}{
			{wholes(0), []bool{true}}, {nil, []bool{true}}, {wholes(0, 0, 0), []bool{true}}, {[]api.Rat{small(0, 5), greatest()}, []bool{true}}, {[]api.Rat{whole(0), largeRats()[0]}, []bool{true}}, {[]api.Rat{{}, {}}, []bool{true}},
			{[]api.Rat{whole(0), greatest()}, nil}, {[]api.Rat{whole(0), greatest()}, []bool{true, true}}, {nil, nil}, {wholes(0), []bool{false, false}}, {roughRats()[:2], nil}, {largeRats()[:2], []bool{true, true}}, {largeRats()[:3], []bool{true}},
		} {
			for _, when := range lines("", " when s") {
				f := form("switch s on", "param p 1", "param m 1", "page g", "field a", "rule weak r"+when+" : "+rule)
				expectOutcome(t, f, x.params, x.on, "arg")
				for i := range x.on {
					x.on[i] = !x.on[i]
				}
				expectOutcome(t, f, x.params, x.on, "arg")
			}
		}
	}
}

// fault is a change to what is handed in, and what is answered then.
type fault struct {
	change func(x *asked)
	want   string
}

func faultless() asked {
	x := own("switch s on", "switch s2 on", "param p 1", "param m 1", "param p2 1", "page g when s", "field a", "field b", "check c : a = p", "rule weak r2 when s : a = p", "rule weak r when s2 : a = p", "rule weak r3 : a = p")
	x.params[1] = greatest()
	return x
}

// faults are changes to the faultless one, in the order in which Elab tells
// them.
func faults() []fault {
	more := func(e *api.Expr, text string) { *e = node(api.ExprAdd, *e, tree(text)) }
	list := []fault{
		{func(x *asked) { x.f.Params[0].Val = api.Rat{} }, "form"},
		{func(x *asked) {
			x.f.Rules = append(x.f.Rules, form(many("rule weak z", " : 1 = 1", api.MaxVars)...).Rules...)
		}, "long"},
		{func(x *asked) { x.f.Rules = append(x.f.Rules, form("rule weak c : 1 = 1").Rules...) }, "name c"},
		{func(x *asked) { x.f.Pages[0].When = "w" }, "name w"},
		{func(x *asked) { x.f.Rules[2].When = "w2" }, "name w2"},
		{func(x *asked) { more(&x.f.Checks[0].R, "n") }, "name n"},
		{func(x *asked) { more(&x.f.Rules[2].L, "n2") }, "name n2"},
		{func(x *asked) { more(&x.f.Rules[1].L, "a * b") }, "linear r"},
		{func(x *asked) { more(&x.f.Rules[2].R, "1 / a") }, "linear r3"},
		{func(x *asked) { x.params = x.params[:2] }, "arg"},
		{func(x *asked) { x.params = append(x.params, whole(1)) }, "arg"},
		{func(x *asked) { x.params[0] = small(2, 2) }, "arg"},
		{func(x *asked) { x.params[0] = largeRats()[0] }, "arg"},
		{func(x *asked) { x.on = x.on[:1] }, "arg"},
		{func(x *asked) { x.on = append(x.on, false) }, "arg"},
	}
	// Of each rule, by its place in the form.
	for _, rule := range []struct {
		place int
		name  string
	}{{0, "r2"}, {1, "r"}, {2, "r3"}} {
		list = append(list, fault{func(x *asked) { more(&x.f.Rules[rule.place].L, "a / (p - p)") }, "zero " + rule.name})
		list = append(list, fault{func(x *asked) { more(&x.f.Rules[rule.place].R, "1 / 0") }, "zero " + rule.name})
	}
	for _, rule := range []struct {
		place int
		name  string
	}{{0, "r2"}, {1, "r"}, {2, "r3"}} {
		list = append(list, fault{func(x *asked) { more(&x.f.Rules[rule.place].L, "m * m") }, "large " + rule.name})
		list = append(list, fault{func(x *asked) { more(&x.f.Rules[rule.place].R, "b * m * m") }, "large " + rule.name})
	}
	return list
}

// P9.2, W4: of any three errors, the first in the order of the promise.
func TestElabTellsTheFirstError(t *testing.T) {
	list := faults()
	x := faultless()
	x.expect(t, "0 weak 1a -1; 1 weak 1a -1; 2 weak 1a -1")
	for i, first := range list {
		for k := i; k < len(list); k++ {
			for _, last := range list[k:] {
				x := faultless()
				last.change(&x)
				list[k].change(&x)
				first.change(&x)
				// Two changes of a count may make it right again.
				if first.want == "arg" && len(x.params) == len(x.f.Params) && len(x.on) == len(x.f.Switches) && !slices.ContainsFunc(x.params, isFaulty) {
					continue
				}
				x.expect(t, first.want)
			}
		}
	}
}

func isFaulty(a api.Rat) bool { return alike(a, small(2, 2)) || alike(a, largeRats()[0]) }

package elab_test

import (
	"slices"
	"strconv"
	"testing"

	"pantograph/aff"
	"pantograph/api"
	"pantograph/elab"
)

// sides is a form of one rule, whose L and R are as told. k is 2, j is -3, h is
// 1/3, o is 0; m is the greatest number that is not Large, w is 1 by it.
func sides(rule string) api.Form {
	f := form("param k 2", "param j -3", "param h 1/3", "param o 0", "param m 1", "param w 1", "page g", "field a", "field b", "page g2", "field d", "rule weak r : "+rule)
	f.Params[4].Val, f.Params[5].Val = greatest(), least()
	return f
}

// P9.2: L less R.
func TestConstraintsByHand(t *testing.T) {
	for rule, want := range map[string]string{
		// The chapter's example.
		"a * k = b": "2a -1b 0",
		"a = b":     "1a -1b 0", "b = a": "-1a 1b 0", "a = 5": "1a -5", "5 = a": "-1a 5", "a + b = d": "1a 1b -1d 0", "d = b + a": "-1a -1b 1d 0", "a + b = 10": "1a 1b -10", "d - b = a - 1": "-1a -1b 1d 1",
		"-a = b": "-1a -1b 0", "a = -b": "1a 1b 0", "a = -5": "1a 5", "-5 = a": "-1a -5", "--a = 1": "1a -1", "a = k": "1a -2", "j = a": "-1a -3", "a = j": "1a 3", "h = b": "-1b 1/3", "a = o": "1a 0", "o = a": "-1a 0",
		"a * k = b * j": "2a 3b 0", "k * (a + 1) = b / k": "2a -1/2b 2", "a / j + d * h = h": "-1/3a 1/3d -1/3", "(a + b) * k / j = d - h": "-2/3a -2/3b -1d 1/3", "2 * (a + 1) - a = b + k * k": "1a -1b -2",
		// Fields on both sides.
		"a = 2 * a": "-1a 0", "a + b = a - b": "2b 0", "3 * a + 1 = a + 4": "2a -3", "a + b + d = d + b": "1a 0", "a + b = b - d": "1a 1d 0", "k * a = -a": "3a 0", "a = a / k": "1/2a 0",
		// The same terms.
		"a = a": "0", "a + b = b + a": "0", "a + 1 = a": "1", "a = a + 1": "-1", "k * a = 2 * a": "0", "a - b = -(b - a)": "0", "a * h = a / 3 + h": "-1/3", "a + b - d = b - d + a": "0", "0 * a = 0 * b": "0", "a - a = b": "-1b 0", "a * o + b * o = d": "-1d 0",
		// A number alone, on one side and on both.
		"1 = 1": "0", "1 = 2": "-1", "2 = 1": "1", "k = 2": "0", "k = j": "5", "h = 0.5": "-1/6", "1 / h = 3": "0", "k * j = o": "-6", "o = 0": "0", "0 = 7": "-7", "-k = k": "-4", "a - a = 1": "-1", "3 = b - b": "3",
		"(o - o) * a = 1": "-1", "(k - 2) * a = b * (j + 3)": "0", "(a - a) * k = d": "-1d 0", "(k + j) * (a - 1) = h * (b + 6)": "-1a -1/3b -1",
	} {
		expectOwn(t, sides(rule), "0 weak "+want)
	}
	// What has fields in both factors, or in a divisor, errs as it is written.
	for _, rule := range lines("a * b = 0", "0 * a * b = 1", "1 = (a - a) * b", "1 / a = 1", "0 = a / (b - b + 1)", "o * a * b = a * b * o") {
		expectOwn(t, sides(rule), "linear r")
	}
}

// P9.2: all of a form, with params and switches that are not its own.
func TestRulesOfOneForm(t *testing.T) {
	f := form(wholeForm()...)
	for _, x := range []struct {
		params []api.Rat
		on     []bool
		want   string
	}{
		{valsOf(f), []bool{true, false}, "0 required 1a -5/2b 3; 2 medium 21/4; 3 weak 7/2a 7/2b 0"},
		{valsOf(f), []bool{true, true}, "0 required 1a -5/2b 3; 1 strong 1a -1b 2/5d 0; 2 medium 21/4; 3 weak 7/2a 7/2b 0"},
		{valsOf(f), []bool{false, true}, "0 required 1a -5/2b 3; 1 strong 1a -1b 2/5d 0; 2 medium 21/4"},
		{valsOf(f), []bool{false, false}, "0 required 1a -5/2b 3; 2 medium 21/4"},
		{wholes(1, 0), []bool{true, true}, "0 required 1a -1b 0; 1 strong 1a -1b 1d 0; 2 medium 0; 3 weak 2a 2b 0"},
		{wholes(-1, 7), []bool{true, true}, "0 required 1a 1b -7; 1 strong 1a -1b -1d 0; 2 medium 0; 3 weak 0"},
		{wholes(0, 0), []bool{true, false}, "0 required 1a 0; 2 medium -1; 3 weak 1a 1b 0"},
		{wholes(0, 0), []bool{true, true}, "zero r2"},
	} {
		expectOutcome(t, f, x.params, x.on, x.want)
	}
}

// P9.2: which rules are active.
func TestActiveRules(t *testing.T) {
	for _, x := range []struct {
		text []string
		on   []bool
		want string
	}{
		{nil, nil, ""}, {lines("page g", "field a"), nil, ""}, {lines("switch s on"), []bool{true}, ""}, {lines("switch s on"), []bool{false}, ""},
		{lines("rule weak r : 1 = 0"), nil, "0 weak 1"}, {lines("switch s on", "rule weak r : 1 = 0"), []bool{false}, "0 weak 1"}, {lines("switch s off", "rule weak r : 1 = 0"), []bool{true}, "0 weak 1"},
		{lines("switch s off", "rule weak r when s : 1 = 0"), []bool{true}, "0 weak 1"}, {lines("switch s on", "rule weak r when s : 1 = 0"), []bool{false}, ""},
		{lines("switch s off", "rule weak r when s : 1 = 0"), []bool{false}, ""}, {lines("switch s on", "rule weak r when s : 1 = 0"), []bool{true}, "0 weak 1"},
		// All of them off, some of them on.
		{lines("switch s on", "rule weak r when s : 1 = 0", "rule strong r2 when s : 2 = 0"), []bool{false}, ""},
		{lines("switch s on", "rule weak r when s : 1 = 0", "rule strong r2 : 2 = 0"), []bool{false}, "1 strong 2"},
		{lines("switch s on", "rule weak r : 1 = 0", "rule strong r2 when s : 2 = 0"), []bool{false}, "0 weak 1"},
		{lines("switch s on", "rule weak r : 1 = 0", "rule strong r2 when s : 2 = 0", "rule medium r3 : 3 = 0"), []bool{false}, "0 weak 1; 2 medium 3"},
		{lines("switch s on", "rule weak r when s : 1 = 0", "rule strong r2 : 2 = 0", "rule medium r3 when s : 3 = 0", "rule required r4 : 4 = 0"), []bool{false}, "1 strong 2; 3 required 4"},
		// A switch stands at any place, ahead of its rule or behind.
		{lines("rule weak r when s2 : 1 = 0", "switch s off", "switch s2 off", "switch s3 off"), []bool{true, false, true}, ""},
		{lines("rule weak r when s2 : 1 = 0", "switch s on", "switch s2 on", "switch s3 on"), []bool{false, true, false}, "0 weak 1"},
		{lines("switch s on", "switch s2 on", "rule weak r when s2 : 1 = 0", "rule weak r2 when s : 2 = 0", "rule weak r3 : 3 = 0"), []bool{true, false}, "1 weak 2; 2 weak 3"},
		{lines("switch s on", "switch s2 on", "rule weak r when s2 : 1 = 0", "rule weak r2 when s : 2 = 0", "rule weak r3 : 3 = 0"), []bool{false, true}, "0 weak 1; 2 weak 3"},
		// The page of a rule's fields may be off: a rule is of no page.
		{lines("switch s on", "page g when s", "field a", "rule weak r : a = 0"), []bool{false}, "0 weak 1a 0"},
	} {
		expectOutcome(t, form(x.text...), nil, x.on, x.want)
	}
}

// P9.2: each rule by itself, on and off.
func TestAllStatesOfSwitches(t *testing.T) {
	const count = 5
	text := many("switch s", " on", count)
	for i := range 2 * count {
		text = append(text, "rule weak r"+strconv.Itoa(i)+" when s"+strconv.Itoa(i*3%count)+" : "+strconv.Itoa(i)+" = 0")
	}
	f := form(text...)
	for bits := range 1 << count {
		var on []bool
		for i := range count {
			on = append(on, bits>>i&1 == 1)
		}
		var want []int
		for i := range 2 * count {
			if on[i*3%count] {
				want = append(want, i)
			}
		}
		a, name, err := elab.Elab(f, nil, on)
		if err != api.OK || name != "" || !slices.Equal(a.Rules, want) || len(a.Cons) != len(want) {
			t.Fatal("of", on, "the active rules are", a, name, err, "not", want)
		}
		for i, c := range a.Cons {
			if !alike(c.K, whole(want[i])) {
				t.Fatal("constraint", i, "is", c, "not that of rule", want[i])
			}
		}
	}
}

// P9.2
func TestStrengths(t *testing.T) {
	words := lines("required", "strong", "medium", "weak")
	for _, word := range words {
		for _, other := range words {
			f := form("switch s on", "page g", "field a", "rule "+word+" r : a = 1", "rule "+other+" r2 when s : 2 = a", "rule "+word+" r3 : 3 = 3")
			expectOutcome(t, f, nil, []bool{true}, "0 "+word+" 1a -1; 1 "+other+" -1a 2; 2 "+word+" 0")
			expectOutcome(t, f, nil, []bool{false}, "0 "+word+" 1a -1; 2 "+word+" 0")
		}
	}
}

// P9.2: as many fields and rules as may be.
func TestFormsAtTheirLimits(t *testing.T) {
	text := append(lines("page g"), many("field f", "", api.MaxVars)...)
	sum := "f0"
	for i := 1; i < api.MaxVars; i++ {
		sum = "f" + strconv.Itoa(i) + " - (" + sum + ")"
		if i%20 == 0 {
			text = append(text, "rule weak q"+strconv.Itoa(i)+" : "+sum+" = 1")
			sum = "f" + strconv.Itoa(i)
		}
	}
	for i := len(form(text...).Rules); i < api.MaxVars; i++ {
		text = append(text, "rule medium r"+strconv.Itoa(i)+" : f"+strconv.Itoa(i)+" = "+strconv.Itoa(i)+" * f"+strconv.Itoa(api.MaxVars-1-i))
	}
	f := form(text...)
	a, name, err := elab.Elab(f, nil, nil)
	want, _, _ := said(f, nil, nil)
	if err != api.OK || name != "" || len(a.Cons) != api.MaxVars || !alikeActives(a, want) {
		t.Fatal("Elab answers", a, name, err, "not", want)
	}
	for _, c := range a.Cons {
		if !aff.Is(c, api.MaxVars) {
			t.Error("a constraint may not be:", c)
		}
	}
	expectOwn(t, form(append(text, "rule weak z : 1 = 1")...), "long")
	expectOwn(t, form(append(text, "page g2", "field z")...), "long")
}

// P9.2: where L or R, or both of them, err.
func TestZero(t *testing.T) {
	errs := lines("1 / 0", "a / 0", "a / o", "0 / o", "1 / (k - 2)", "b / (3 * h - 1)", "0 * (1 / 0)", "a - a / o", "-(a / (o * k))", "1 / 0 - 1 / 0", "k / -0", "a / (o / k)")
	fine := lines("a", "1", "0", "o / 1", "a / k", "0 / k", "b / -0.5", "a * o")
	for _, l := range errs {
		for _, r := range errs {
			expectOwn(t, sides(l+" = "+r), "zero r")
		}
		for _, r := range fine {
			expectOwn(t, sides(l+" = "+r), "zero r")
			expectOwn(t, sides(r+" = "+l), "zero r")
			if got := outcome(sides(r+" = "+r), valsOf(sides(r+" = "+r)), nil); got != "0 weak 0" {
				t.Error(r, "errs:", got)
			}
		}
	}
	// It is the number handed in that counts, not the form's.
	f := form("param p 1", "param q 0", "page g", "field a", "rule weak r : a / p = 1 / q")
	expectOwn(t, f, "zero r")
	expectOutcome(t, f, wholes(1, 0), nil, "zero r")
	expectOutcome(t, f, wholes(0, 1), nil, "zero r")
	expectOutcome(t, f, wholes(0, 0), nil, "zero r")
	expectOutcome(t, f, wholes(2, 4), nil, "0 weak 1/2a -1/4")
}

// P9.2: a rule that is not active errs with nothing that hangs on numbers.
func TestErrorsOfRulesThatAreNotActive(t *testing.T) {
	for _, x := range []struct{ rule, want string }{{"a = 1 / 0", "zero r"}, {"1 / p = a", "zero r"}, {"a * m * m = 1", "large r"}, {"a = m * m", "large r"}, {"m * m = 1 / p", "zero r"}} {
		f := form("switch s on", "switch s2 on", "param p 0", "param m 1", "page g", "field a", "rule weak q : a = 1", "rule weak r when s2 : "+x.rule, "rule weak r2 : a = 2")
		params := []api.Rat{whole(0), greatest()}
		for _, first := range []bool{false, true} {
			expectOutcome(t, f, params, []bool{first, false}, "0 weak 1a -1; 2 weak 1a -2")
			expectOutcome(t, f, params, []bool{first, true}, x.want)
		}
		// Both of two rules, one of them, or none is active.
		two := form("switch s on", "switch s2 on", "param p 0", "param m 1", "page g", "field a", "rule weak r2 when s : "+x.rule, "rule weak r when s2 : "+x.rule)
		expectOutcome(t, two, params, []bool{false, false}, "")
		expectOutcome(t, two, params, []bool{false, true}, x.want)
		expectOutcome(t, two, params, []bool{true, true}, x.want+"2")
		expectOutcome(t, two, params, []bool{true, false}, x.want+"2")
	}
	// What chapter 7 tells is told of them, too.
	for _, x := range []struct{ rule, want string }{{"a * a = 1", "linear r"}, {"z = 1", "name z"}} {
		expectOutcome(t, form("switch s on", "page g", "field a", "rule weak r when s : "+x.rule), nil, []bool{false}, x.want)
	}
}

// P9.2: C and K that are Large, and that are just not.
func TestLarge(t *testing.T) {
	for _, rule := range lines(
		"a * m = b", "a = b * m", "a = -m * b", "a * -m = -b * m", "a * m + b * m = d * m + m", "a = m", "m = a", "a = -m", "a + 1 = m", "m = 1 + a", "m = 0", "0 = m", "m = -0", "m - 1 = a", "a * w = b", "a = b * w", "a = w", "-w = b", "a / m = w", "w = m * 0",
		"a / m = b / m + d / m", "a * (m - 1) + a = b", "a * (m - 1) = -a", "a * (m / 2) = -a * (m / 2)", "m * w = a", "m / w * w = a", "a * w / k = a * w / k + b",
		// What L or R has is Large, L less R is not.
		"a * (m + 1) = a * m", "a * (m + 1) = a * (m + 1)", "a + m + 1 = m", "m + 1 = a + m + 1", "m * m = m * m", "m * m = m * m + a", "a * m * m = a * m * m + b", "m * m / m = a", "a * m * m / m = b", "w * w = w * w - d", "a * w * w = a * (w * w) + w", "m + 1 - 1 = a", "m + 1 - m = a", "a * 2 * (m + 1) - m * a = a * (m + 1)", "0 * (m + 1) = a * (m * m * 0)",
	) {
		f := sides(rule)
		want, _, _ := said(f, valsOf(f), nil)
		expectOwn(t, f, inWords(f, want))
		if len(want.Cons) != 1 {
			t.Fatal("the test's rule errs:", rule)
		}
	}
	for _, rule := range lines(
		"a * (m + 1) = b", "a = b * (m + 1)", "a * m = -a", "-a = a * m", "a * m + b = -b + a * m + d * (m + 1)", "a * (-m - 1) = b", "b + d = a * (m + 1)", "a + b * (m + 1) = d", "a + b = d * (m + 1)", "a * m * m = 1", "a * m * 2 = 1", "a * m = 1 - a * m", "a - a * m = 2 * a * m", "a * (m + 1) + b * (m + 1) = d * (m + 1)",
		"a = m + 1", "m + 1 = a", "a + m = -1", "a - m = 1", "1 = -m", "m = -m", "m * m = 0", "0 = m * m", "m + 1 = 0", "a + m + 1 = 0", "a = -m * m", "a * (m + 1) = m + 1",
		"a / (m + 1) = b", "a = b / (m + 1)", "a / (m + 1) = b / (m + 1)", "a / m / 2 = b", "a / m = a / 2", "a * w = a / k", "a * w * w = b", "b + d = a * w * w", "a / m = b / (m - 1) + b / m", "a + b * w * w = d", "a + b = d / m / m", "a * (m / (m + 1)) = b", "a * m / (m + 1) = -b",
		"a = 1 / (m + 1)", "a = w / 2", "w / 2 = 0", "w = 0.5", "0.5 = w", "w * w = a", "a + w = 1 / (m - 1)", "m / (m + 1) = b", "m / 2 + w = a",
	) {
		expectOwn(t, sides(rule), "large r")
	}
	// A number as it is written.
	digits := greatestDigits()
	expectOwn(t, sides("a * "+digits+" = b"), "0 weak "+digits+"a -1b 0")
	expectOwn(t, sides("a = "+digits), "0 weak 1a -"+digits)
	expectOwn(t, sides("a * "+digits+" = b - a"), "large r")
	expectOwn(t, sides("a + 1 = -"+digits), "large r")
}

func greatestDigits() string { return value(greatest()).Num().String() }

// P9.2: ErrZero of any rule, then ErrLarge of any; of each the first rule.
func TestZeroAndLarge(t *testing.T) {
	const zero, large, fine = "a = 1 / 0", "a = m * m", "a = m"
	for _, x := range []struct {
		rules []string
		want  string
	}{
		// In one rule.
		{lines("a / 0 = m * m"), "zero r0"}, {lines("m * m = a / 0"), "zero r0"}, {lines("a * m * m = 1 / 0"), "zero r0"}, {lines("a * m * m / 0 = 1"), "zero r0"}, {lines("m * m + 1 / 0 = a"), "zero r0"}, {lines("1 / 0 + m * m = a"), "zero r0"}, {lines("m * m = m * m / o"), "zero r0"}, {lines("m * m / (m * m - m * m) = a"), "zero r0"},
		// In two of them.
		{lines(zero, large), "zero r0"}, {lines(large, zero), "zero r1"}, {lines(zero, zero), "zero r0"}, {lines(large, large), "large r0"},
		{lines("a * m * m = 1", zero), "zero r1"}, {lines(zero, "a * m * m = 1"), "zero r0"}, {lines("a * m * m = 1", large), "large r0"}, {lines(large, "a * m * m = 1"), "large r0"},
		{lines("1 / 0 = a", zero), "zero r0"}, {lines(zero, "1 / 0 = a"), "zero r0"},
		// Beside others.
		{lines(fine, zero), "zero r1"}, {lines(zero, fine), "zero r0"}, {lines(fine, large), "large r1"}, {lines(large, fine), "large r0"}, {lines(fine, fine, large, fine), "large r2"}, {lines(fine, fine, zero, fine), "zero r2"},
		{lines(fine, large, zero), "zero r2"}, {lines(large, fine, zero), "zero r2"}, {lines(zero, fine, large), "zero r0"}, {lines(large, zero, large, zero), "zero r1"}, {lines(large, large, large, zero), "zero r3"}, {lines(fine, large, fine, large), "large r1"},
	} {
		for _, strength := range lines("required", "weak") {
			text := lines("switch s on", "param o 0", "param m "+greatestDigits(), "page g", "field a")
			for i, rule := range x.rules {
				text = append(text, "rule "+strength+" r"+strconv.Itoa(i)+" : "+rule)
			}
			expectOwn(t, form(text...), x.want)
			// Rules that are off stand between, and have no error.
			var apart []string
			for i, rule := range x.rules {
				apart = append(apart, "rule weak z"+strconv.Itoa(i)+" when s : 1 / 0 = m * m", "rule weak r"+strconv.Itoa(i)+" : "+rule)
			}
			f := form(append(text[:5:5], apart...)...)
			expectOutcome(t, f, valsOf(f), []bool{false}, x.want)
		}
	}
}

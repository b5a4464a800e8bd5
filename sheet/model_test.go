package sheet_test

import (
	"regexp"
	"strings"
	"testing"

	"pantograph/api"
	"pantograph/expr"
	"pantograph/sheet"
)

const (
	nameShape  = `([a-z][a-z0-9_]{0,23})`
	whenShape  = `(?: +when +` + nameShape + `)?`
	sidesShape = ` *:([^<=]*)(<=|<|=)(.*)`
)

func shape(s string) *regexp.Regexp { return regexp.MustCompile(`(?s)\A *` + s + `\z`) }

var (
	shapeNone   = shape(`(#.*)?`)
	shapeSwitch = shape(`switch +` + nameShape + ` +(on|off) *`)
	shapeParam  = shape(`param +` + nameShape + ` +(-?[0-9]+(?:\.[0-9]+|/0*[1-9][0-9]*)?) *`)
	shapePage   = shape(`page +` + nameShape + whenShape + ` *`)
	shapeField  = shape(`field +` + nameShape + `( +must)?(?: +scale +([0-9]))? *`)
	shapeCheck  = shape(`check +` + nameShape + sidesShape)
	shapeRule   = shape(`rule +(required|strong|medium|weak) +` + nameShape + whenShape + sidesShape)
)

// model reads texts as the document says, by the shapes of whole lines.
type model struct {
	form api.Form
}

// read is what Parse is to answer.
func read(s string) (api.Form, int, api.Errno) {
	if len(s) > api.MaxText {
		return api.Form{}, 0, api.ErrLong
	}
	m := &model{}
	for i, line := range strings.Split(s, "\n") {
		if err := m.line(line); err != api.OK {
			return api.Form{}, i + 1, err
		}
	}
	for _, x := range m.form.Params {
		if len(x.Val.N) > api.MaxLimbs || len(x.Val.D) > api.MaxLimbs {
			return api.Form{}, 0, api.ErrForm
		}
	}
	if len(formText(m.form)) > api.MaxText {
		return api.Form{}, 0, api.ErrForm
	}
	return m.form, 0, api.OK
}

func (m *model) line(line string) api.Errno {
	f, page := &m.form, len(m.form.Pages)-1
	if shapeNone.MatchString(line) {
		return api.OK
	}
	if x := shapeSwitch.FindStringSubmatch(line); x != nil {
		f.Switches = append(f.Switches, api.Switch{Name: x[1], On: x[2] == "on"})
		return api.OK
	}
	if x := shapeParam.FindStringSubmatch(line); x != nil && len(x[2]) <= 400 {
		f.Params = append(f.Params, api.Param{Name: x[1], Val: written(x[2])})
		return api.OK
	}
	if x := shapePage.FindStringSubmatch(line); x != nil {
		f.Pages = append(f.Pages, api.Page{Name: x[1], When: x[2]})
		return api.OK
	}
	if x := shapeField.FindStringSubmatch(line); x != nil && page >= 0 {
		f.Fields = append(f.Fields, api.Field{Name: x[1], Page: page, Must: x[2] != "", Scale: strings.Index("0123456789", x[3])})
		return api.OK
	}
	if x := shapeCheck.FindStringSubmatch(line); x != nil && page >= 0 {
		l, r, err := bothSides(x[2], x[4])
		f.Checks = append(f.Checks, api.Check{Name: x[1], Page: page, Cmp: map[string]int{"<": 1, "<=": 2}[x[3]], L: l, R: r})
		return err
	}
	if x := shapeRule.FindStringSubmatch(line); x != nil {
		l, r, err := bothSides(x[4], x[6])
		f.Rules = append(f.Rules, api.Rule{Name: x[2], Strength: map[string]int{"strong": 1, "medium": 2, "weak": 3}[x[1]], When: x[3], L: l, R: r})
		if err == api.OK && x[5] != "=" {
			err = api.ErrForm
		}
		return err
	}
	return api.ErrForm
}

func bothSides(left, right string) (l, r api.Expr, err api.Errno) {
	l, _, first := expr.Parse(left)
	r, _, second := expr.Parse(right)
	if first != api.OK {
		return l, r, first
	}
	return l, r, second
}

func short(s string) string {
	if len(s) > 400 {
		return s[:200] + " .. " + s[len(s)-200:]
	}
	return s
}

// checkParse holds Parse of a text against the model.
func checkParse(t *testing.T, s string) {
	t.Helper()
	f, at, err := read(s)
	if err != api.OK {
		expectRefused(t, s, at, err)
		return
	}
	expectParsed(t, s, f)
}

// expectParsed also holds Print of what is read against it: P6.4.
func expectParsed(t *testing.T, s string, want api.Form) {
	t.Helper()
	got, at, err := sheet.Parse(s)
	if err != api.OK || at != 0 {
		t.Fatalf("Parse refuses %q: %v in line %d", short(s), err, at)
	}
	if !alike(got, want) {
		t.Fatalf("Parse of %q answers %v", short(s), got)
	}
	if text := sheet.Print(got); text != formText(want) {
		t.Fatalf("Print of Parse of %q is %q", short(s), short(text))
	}
}

func expectRefused(t *testing.T, s string, at int, err api.Errno) {
	t.Helper()
	got, gotAt, gotErr := sheet.Parse(s)
	if gotErr != err || gotAt != at {
		t.Fatalf("Parse of %q (%d bytes) answers %v in line %d, not %v in line %d", short(s), len(s), gotErr, gotAt, err, at)
	}
	// W3: the form is the zero value.
	if !isEmpty(got) {
		t.Fatalf("Parse of %q answers %v with an error", short(s), got)
	}
}

package check_test

import (
	"math/rand"
	"slices"
	"strconv"
	"strings"
	"testing"

	"pantograph/api"
	"pantograph/check"
	"pantograph/sheet"
)

// said is what Static is to answer of a form that may be. It reads the lines
// of the form as it is printed, and tells what is wrong in each by itself.
func said(f api.Form) (api.Errno, string) {
	if len(f.Fields) > api.MaxVars || len(f.Rules) > api.MaxVars {
		return api.ErrLong, ""
	}
	given := map[string][]string{}
	var whens, sides []string
	text := strings.Split(sheet.Print(f), "\n")
	for _, kind := range []string{"switch", "param", "page", "field", "check", "rule"} {
		for _, line := range text {
			if !strings.HasPrefix(line, kind+" ") {
				continue
			}
			ahead, behind, _ := strings.Cut(line, ":")
			words := strings.Fields(ahead)
			if kind == "rule" {
				words = words[1:]
			}
			given[kind] = append(given[kind], words[1])
			if len(words) > 3 && words[2] == "when" {
				whens = append(whens, words[3])
			}
			if behind != "" {
				sides = append(sides, behind)
			}
		}
	}
	if name := saidTwice(slices.Concat(given["switch"], given["param"], given["page"], given["field"], given["rule"], given["check"])); name != "" {
		return api.ErrName, name
	}
	for _, name := range whens {
		if !slices.Contains(given["switch"], name) {
			return api.ErrName, name
		}
	}
	for _, name := range wordsOf(sides) {
		if !slices.Contains(given["field"], name) && !slices.Contains(given["param"], name) {
			return api.ErrName, name
		}
	}
	for _, x := range f.Rules {
		if !isLinear(x.L, given["field"]) || !isLinear(x.R, given["field"]) {
			return api.ErrLinear, x.Name
		}
	}
	return api.OK, ""
}

func saidTwice(names []string) string {
	for i, name := range names {
		if slices.Contains(names[:i], name) {
			return name
		}
	}
	return ""
}

// wordsOf are all names in texts of expressions.
func wordsOf(texts []string) []string {
	var names []string
	for _, text := range texts {
		isEnd := func(r rune) bool { return strings.ContainsRune(" ()+-*/<=", r) }
		for _, word := range strings.FieldsFunc(text, isEnd) {
			if word[0] >= 'a' {
				names = append(names, word)
			}
		}
	}
	return names
}

func expectSaid(t *testing.T, f api.Form, err api.Errno, name string) {
	t.Helper()
	gotErr, gotName := check.Static(f)
	if gotErr != err || gotName != name {
		text := sheet.Print(f)
		t.Fatalf("Static answers %v %q, not %v %q, of\n%s", gotErr, gotName, err, name, text[:min(len(text), 1000)])
	}
}

// maker makes forms at random, of names of its own.
type maker struct {
	*rand.Rand
	count   int
	wrong   int // one name of so many is one that may stand anywhere
	crooked int // one side of so many may be one that is not linear
}

func (m *maker) one(names ...string) string {
	if m.Intn(m.wrong) == 0 || len(names) == 0 {
		names = []string{"a0", "a1", "a2", "a3", "a4", "a5", "none", "other"}
	}
	return names[m.Intn(len(names))]
}

func (m *maker) fresh() string {
	m.count++
	return m.one("a" + strconv.Itoa(m.count-1))
}

func (m *maker) when(switches []string) string {
	if m.Intn(3) > 0 || len(switches) == 0 && m.Intn(m.wrong) > 0 {
		return ""
	}
	return m.one(switches...)
}

// side is linear, as a rule.
func (m *maker) side(fields, params []string) api.Expr {
	if m.Intn(m.crooked) == 0 {
		return grownExpr(m.Rand, 1+m.Intn(12), []api.Expr{named(m.one(slices.Concat(fields, params)...)), named(m.one(slices.Concat(params, fields)...)), number(1, 2)})
	}
	leaf := []api.Expr{number(uint32(1+m.Intn(9)), 1)}
	if len(params) > 0 {
		leaf = append(leaf, named(m.one(params...)))
	}
	e := grownExpr(m.Rand, 1+m.Intn(6), leaf)
	for range m.Intn(4) {
		term := number(2, 1)
		if len(fields) > 0 {
			term = named(m.one(fields...))
		}
		e = []api.Expr{add(e, term), sub(mul(leaf[0], term), e), quot(neg(e), leaf[0])}[m.Intn(3)]
	}
	return e
}

func (m *maker) form() api.Form {
	var f api.Form
	var switches, params, fields []string
	m.count = 0
	for range m.Intn(4) {
		f.Switches = append(f.Switches, api.Switch{Name: m.fresh(), On: m.Intn(2) == 0})
		switches = append(switches, f.Switches[len(f.Switches)-1].Name)
	}
	for range m.Intn(4) {
		f.Params = append(f.Params, api.Param{Name: m.fresh(), Val: number(uint32(1+m.Intn(9)), 1).Num})
		params = append(params, f.Params[len(f.Params)-1].Name)
	}
	for i := range m.Intn(4) {
		f.Pages = append(f.Pages, api.Page{Name: m.fresh(), When: m.when(switches)})
		for range m.Intn(4) {
			f.Fields = append(f.Fields, api.Field{Name: m.fresh(), Page: i})
			fields = append(fields, f.Fields[len(f.Fields)-1].Name)
		}
	}
	for range m.Intn(5) {
		f.Rules = append(f.Rules, api.Rule{Name: m.fresh(), Strength: m.Intn(4), When: m.when(switches), L: m.side(fields, params), R: m.side(fields, params)})
	}
	for i := range f.Pages {
		for range m.Intn(3) {
			f.Checks = append(f.Checks, api.Check{Name: m.fresh(), Page: i, Cmp: m.Intn(3), L: m.side(fields, params), R: m.side(fields, params)})
		}
	}
	return f
}

// P7.2
func TestStaticOfRandomForms(t *testing.T) {
	m := &maker{Rand: rand.New(rand.NewSource(73))}
	count := map[api.Errno]int{}
	for i := range 8000 {
		m.wrong, m.crooked = []int{5, 100, 1000, 10000}[i%4], []int{4, 10, 50}[i%3]
		f := m.form()
		if !sheet.Is(f) {
			t.Fatal("the test's form may not be:", f)
		}
		err, name := said(f)
		count[err]++
		expectSaid(t, f, err, name)
	}
	if count[api.OK] < 1000 || count[api.ErrName] < 1000 || count[api.ErrLinear] < 300 {
		t.Error("too few forms of a kind:", count)
	}
}

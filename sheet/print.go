package sheet

import (
	"iter"
	"strconv"
	"strings"

	"pantograph/api"
	"pantograph/dec"
	"pantograph/expr"
	"pantograph/rat"
)

// Print is a form as a text.
func Print(f api.Form) string {
	text, _ := textOf(f)
	return text
}

// textOf is a form as a text, and whether it may be. It ends at the first line
// that may not be, or is beyond MaxText, however long the lists are.
func textOf(f api.Form) (string, bool) {
	var b strings.Builder
	for line := range linesOf(f) {
		if line == "" || b.Len()+len(line)+1 > api.MaxText {
			return "", false
		}
		b.WriteString(line)
		b.WriteString("\n")
	}
	return b.String(), true
}

// linesOf are all lines of a form. The line of what may not be is empty.
func linesOf(f api.Form) iter.Seq[string] {
	return func(yield func(string) bool) {
		if each(f.Switches, switchLine, yield) && each(f.Params, paramLine, yield) && eachOfPages(f, yield) {
			each(f.Rules, ruleLine, yield)
		}
	}
}

// each tells whether more lines are asked for.
func each[T any](list []T, lineOf func(T) string, yield func(string) bool) bool {
	for _, x := range list {
		if !yield(lineOf(x)) {
			return false
		}
	}
	return true
}

func eachOfPages(f api.Form, yield func(string) bool) bool {
	fields, checks := f.Fields, f.Checks
	for i, page := range f.Pages {
		if !yield(pageLine(page)) {
			return false
		}
		for ; len(fields) > 0 && fields[0].Page == i; fields = fields[1:] {
			if !yield(fieldLine(fields[0])) {
				return false
			}
		}
		for ; len(checks) > 0 && checks[0].Page == i; checks = checks[1:] {
			if !yield(checkLine(checks[0])) {
				return false
			}
		}
	}
	// What is left is of no page, or falls to one that has been passed.
	return len(fields)+len(checks) == 0 || yield("")
}

func switchLine(x api.Switch) string {
	if !expr.Name(x.Name) {
		return ""
	}
	state := 0
	if x.On {
		state = 1
	}
	return "switch " + x.Name + " " + states()[state]
}

func paramLine(x api.Param) string {
	if !expr.Name(x.Name) || !isVal(x.Val) {
		return ""
	}
	return "param " + x.Name + " " + dec.Print(x.Val)
}

// isVal tells whether a number is normal and not Large.
func isVal(a api.Rat) bool {
	// Rows of a normal number are trimmed: it is Large just if one is longer.
	return len(a.N) <= api.MaxLimbs && len(a.D) <= api.MaxLimbs && rat.Is(a)
}

func pageLine(x api.Page) string {
	if !expr.Name(x.Name) || !isWhen(x.When) {
		return ""
	}
	return "page " + x.Name + whenText(x.When)
}

func isWhen(name string) bool {
	return name == "" || expr.Name(name)
}

func whenText(name string) string {
	if name == "" {
		return ""
	}
	return " when " + name
}

func fieldLine(x api.Field) string {
	if !expr.Name(x.Name) || x.Scale < 0 || x.Scale > api.MaxScale {
		return ""
	}
	line := "field " + x.Name
	if x.Must {
		line += " must"
	}
	if x.Scale != 0 {
		line += " scale " + strconv.Itoa(x.Scale)
	}
	return line
}

func checkLine(x api.Check) string {
	sides := sidesText(x.L, wordAt(compares(), x.Cmp), x.R)
	if !expr.Name(x.Name) || sides == "" {
		return ""
	}
	return "check " + x.Name + " : " + sides
}

func ruleLine(x api.Rule) string {
	strength := wordAt(strengths(), x.Strength)
	sides := sidesText(x.L, compares()[api.CmpEqual], x.R)
	if strength == "" || !expr.Name(x.Name) || !isWhen(x.When) || sides == "" {
		return ""
	}
	return "rule " + strength + " " + x.Name + whenText(x.When) + " : " + sides
}

// wordAt is nothing, if there is no such word.
func wordAt(words []string, i int) string {
	if i < 0 || i >= len(words) {
		return ""
	}
	return words[i]
}

// sidesText is nothing, if one of its parts is: no expression that may be is
// printed as nothing.
func sidesText(l api.Expr, compare string, r api.Expr) string {
	left, right := expr.Print(l), expr.Print(r)
	if left == "" || compare == "" || right == "" {
		return ""
	}
	return left + " " + compare + " " + right
}

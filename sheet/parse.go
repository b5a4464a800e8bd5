package sheet

import (
	"strings"

	"pantograph/api"
	"pantograph/expr"
)

// Parse is a text as a form.
func Parse(s string) (api.Form, int, api.Errno) {
	if len(s) > api.MaxText {
		return api.Form{}, 0, api.ErrLong
	}
	r := &reader{}
	for i, line := range strings.Split(s, "\n") {
		if err := r.line(line); err != api.OK {
			return api.Form{}, i + 1, err
		}
	}
	if !Is(r.form) {
		return api.Form{}, 0, api.ErrForm
	}
	return r.form, 0, api.OK
}

// reader has what the lines so far make.
type reader struct {
	form api.Form
}

func (r *reader) line(line string) api.Errno {
	w := wordsOf(line)
	first := w.next()
	if first == "" || strings.HasPrefix(first, "#") {
		return api.OK
	}
	switch first {
	case "switch":
		return r.readSwitch(w)
	case "param":
		return r.readParam(w)
	case "page":
		return r.readPage(w)
	case "field":
		return r.readField(w)
	case "check":
		return r.readCheck(line)
	case "rule":
		return r.readRule(line)
	}
	return api.ErrForm
}

func (r *reader) readSwitch(w *words) api.Errno {
	name := w.name()
	state := w.oneOf(states())
	if !w.fit() {
		return api.ErrForm
	}
	r.form.Switches = append(r.form.Switches, api.Switch{Name: name, On: state == 1})
	return api.OK
}

func (r *reader) readParam(w *words) api.Errno {
	name := w.name()
	val := w.number()
	if !w.fit() {
		return api.ErrForm
	}
	r.form.Params = append(r.form.Params, api.Param{Name: name, Val: val})
	return api.OK
}

func (r *reader) readPage(w *words) api.Errno {
	name := w.name()
	when := w.when()
	if !w.fit() {
		return api.ErrForm
	}
	r.form.Pages = append(r.form.Pages, api.Page{Name: name, When: when})
	return api.OK
}

func (r *reader) readField(w *words) api.Errno {
	name := w.name()
	must := w.take("must")
	scale := w.scale()
	if !w.fit() || !r.hasPage() {
		return api.ErrForm
	}
	r.form.Fields = append(r.form.Fields, api.Field{Name: name, Page: r.lastPage(), Must: must, Scale: scale})
	return api.OK
}

func (r *reader) readCheck(line string) api.Errno {
	w, e := parts(line)
	name := w.name()
	if !w.fit() || !r.hasPage() {
		return api.ErrForm
	}
	left, right, err := e.sides()
	if err != api.OK {
		return err
	}
	r.form.Checks = append(r.form.Checks, api.Check{Name: name, Page: r.lastPage(), Cmp: e.compare, L: left, R: right})
	return api.OK
}

func (r *reader) readRule(line string) api.Errno {
	w, e := parts(line)
	strength := w.oneOf(strengths())
	name := w.name()
	when := w.when()
	if !w.fit() {
		return api.ErrForm
	}
	left, right, err := e.sides()
	if err != api.OK {
		return err
	}
	// Asked last: errors of L and R stand ahead of this one.
	if e.compare != api.CmpEqual {
		return api.ErrForm
	}
	r.form.Rules = append(r.form.Rules, api.Rule{Name: name, Strength: strength, When: when, L: left, R: right})
	return api.OK
}

func (r *reader) hasPage() bool { return len(r.form.Pages) > 0 }
func (r *reader) lastPage() int { return len(r.form.Pages) - 1 }

// equation is what stands behind the `:` of a check or a rule, on the left and
// on the right of its compare. Without a compare there is nothing on either,
// which is no expression.
type equation struct {
	left, right string
	compare     int
}

// parts are the words of a check or a rule from the second on, and what stands
// behind its `:`.
func parts(line string) (*words, equation) {
	ahead, behind, _ := strings.Cut(line, ":")
	w := wordsOf(ahead)
	w.next()
	// Without a `:` nothing stands behind it: no compare either.
	return w, cutCompare(behind)
}

func cutCompare(s string) equation {
	at := strings.IndexAny(s, "<=")
	if at < 0 {
		return equation{}
	}
	e := equation{left: s[:at], right: s[at+1:], compare: api.CmpEqual}
	if s[at] == '=' {
		return e
	}
	e.compare = api.CmpLess
	if right, isMost := strings.CutPrefix(e.right, "="); isMost {
		e.right, e.compare = right, api.CmpMost
	}
	return e
}

// sides are both expressions, or the first error of them.
func (e equation) sides() (left, right api.Expr, err api.Errno) {
	left, _, err = expr.Parse(e.left)
	if err != api.OK {
		return api.Expr{}, api.Expr{}, err
	}
	right, _, err = expr.Parse(e.right)
	if err != api.OK {
		return api.Expr{}, api.Expr{}, err
	}
	return left, right, api.OK
}

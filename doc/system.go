package doc

import (
	"slices"

	"pantograph/aff"
	"pantograph/api"
	"pantograph/delta"
	"pantograph/elab"
	"pantograph/gauss"
	"pantograph/rat"
	"pantograph/solve"
)

// none is what a constraint tells that tells no variable, and the number of
// the constraint where none is at fault.
const none = -1

// system is a document's constraints, those of rules and behind them those of
// pins, and their choice.
type system struct {
	cons  []api.Con
	outs  []int
	rules []int // whose constraints are the first ones
	pins  []int // the fields of those behind them
}

// systemOf is the system of a document, or Elab's error and its name.
func systemOf(f api.Form, d Doc) (system, string, api.Errno) {
	n := len(f.Fields)
	if len(d.Vals) != n || len(d.Pins) != n || len(d.Filled) != n || len(d.Outs) != len(f.Rules) {
		return system{}, "", api.ErrArg
	}
	all, name, err := elab.Elab(f, d.Params, d.On)
	if err != api.OK {
		return system{}, name, err
	}
	s := system{cons: all.Cons, rules: all.Rules}
	for _, rule := range all.Rules {
		s.outs = append(s.outs, d.Outs[rule])
	}
	for field, p := range d.Pins {
		if p.On {
			s = s.with(field, p.Val)
		}
		if p.On && p.Tells {
			s.outs[len(s.outs)-1] = field
		}
	}
	return s, "", api.OK
}

// with is a system and, behind it, that a field is a number, which tells none.
func (s system) with(field int, val api.Rat) system {
	is := api.Con{Strength: api.Strong, Terms: []api.Term{{Var: field, C: rat.Int(1)}}, K: rat.Neg(val)}
	return system{
		cons: slices.Concat(s.cons, []api.Con{is}), outs: slices.Concat(s.outs, []int{none}),
		rules: s.rules, pins: slices.Concat(s.pins, []int{field}),
	}
}

// wholeOf is the system of a document; false, if it is none of the form.
func wholeOf(f api.Form, d Doc) (system, bool) {
	if !slices.ContainsFunc(d.Vals, isNoVal) && !slices.ContainsFunc(d.Pins, isNoPin) {
		s, _, err := systemOf(f, d)
		return s, err == api.OK && s.isSilent(d.Outs) && s.isSettled(d.Vals)
	}
	return system{}, false
}

func isNoVal(a api.Rat) bool { return !isVal(a) }

// isNoPin tells whether a pin may not be: one that is not there is 0 and tells
// none.
func isNoPin(p Pin) bool {
	return !isVal(p.Val) || !p.On && (p.Tells || !rat.Zero(p.Val))
}

// isSilent tells whether all rules that are not active tell none.
func (s system) isSilent(outs []int) bool {
	for rule, out := range outs {
		if out != none && !slices.Contains(s.rules, rule) {
			return false
		}
	}
	return true
}

// isSettled tells whether at values all hold that tell, and no other one can.
func (s system) isSettled(vals []api.Rat) bool {
	n := len(vals)
	if !delta.Is(s.cons, s.outs, n) {
		return false
	}
	for i, c := range s.cons {
		if s.outs[i] != none {
			if !gauss.Holds(c, vals) {
				return false
			}
			continue
		}
		isIdle := len(c.Terms) == 0 && rat.Zero(c.K)
		if !delta.Blocked(s.cons, s.outs, n, i) || c.Strength == api.Required && !isIdle {
			return false
		}
	}
	return true
}

// settled is a document behind a Phase of its system. The document is the
// call's own.
func (s system) settled(f api.Form, d Doc) (Doc, []string, api.Errno) {
	now, names, err := s.phase(f, d.Vals)
	if err != api.OK {
		return Doc{}, names, err
	}
	d.Vals = now.Vals
	for rule := range d.Outs {
		d.Outs[rule] = none
	}
	for i, rule := range s.rules {
		d.Outs[rule] = now.Outs[i]
	}
	for i, field := range s.pins {
		d.Pins[field].Tells = now.Outs[len(s.rules)+i] != none
	}
	return d, nil, api.OK
}

// phase is a Phase of a system, or its error and the name of who is in the
// way.
func (s system) phase(f api.Form, vals []api.Rat) (solve.State, []string, api.Errno) {
	now, i, err := solve.Phase(s.cons, solve.State{Outs: s.outs, Vals: vals})
	if err != api.OK {
		return solve.State{}, namesOf(s.nameOf(f, i)), err
	}
	return now, nil, api.OK
}

// nameOf is the name of a constraint: the rule's, or the field's.
func (s system) nameOf(f api.Form, i int) string {
	switch rules := len(s.rules); {
	case i == none:
		return ""
	case i < rules:
		return f.Rules[s.rules[i]].Name
	default:
		return f.Fields[s.pins[i-rules]].Name
	}
}

// changed is a document of other params or switches behind a Phase, where s is
// what its system was. The document is the call's own.
func (s system) changed(f api.Form, d Doc) (Doc, []string, api.Errno) {
	now, name, err := systemOf(f, d)
	if err != api.OK {
		return refused(err, name)
	}
	for i, rule := range now.rules {
		was := slices.Index(s.rules, rule)
		if was < 0 || !aff.Same(s.cons[was], now.cons[i]) {
			now.outs[i] = none
		}
	}
	return now.settled(f, d)
}

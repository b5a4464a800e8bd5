package elab_test

import (
	"math/big"
	"math/rand"
	"slices"
	"strconv"

	"pantograph/api"
	"pantograph/check"
	"pantograph/elab"
)

// valued is the number of a tree whose names have numbers; false, if a divisor
// is 0.
func valued(e api.Expr, of map[string]*big.Rat) (*big.Rat, bool) {
	var kids []*big.Rat
	for _, kid := range e.Kids {
		x, ok := valued(kid, of)
		if !ok {
			return nil, false
		}
		kids = append(kids, x)
	}
	x := new(big.Rat)
	switch e.Kind {
	case api.ExprNum:
		x = value(e.Num)
	case api.ExprName:
		x = of[e.Name]
	case api.ExprAdd:
		x.Add(kids[0], kids[1])
	case api.ExprSub:
		x.Sub(kids[0], kids[1])
	case api.ExprMul:
		x.Mul(kids[0], kids[1])
	case api.ExprNeg:
		x.Neg(kids[0])
	case api.ExprDiv:
		if kids[1].Sign() == 0 {
			return nil, false
		}
		x.Quo(kids[0], kids[1])
	}
	return x, true
}

// gap is L less R of a rule, where params and fields have numbers; false, if
// one of them has none.
func gap(f api.Form, x api.Rule, params, vals []*big.Rat) (*big.Rat, bool) {
	of := map[string]*big.Rat{}
	for i, p := range f.Params {
		of[p.Name] = params[i]
	}
	for i, field := range f.Fields {
		of[field.Name] = vals[i]
	}
	l, okL := valued(x.L, of)
	r, okR := valued(x.R, of)
	if !okL || !okR {
		return nil, false
	}
	return new(big.Rat).Sub(l, r), true
}

func values(list []api.Rat) []*big.Rat {
	var all []*big.Rat
	for _, a := range list {
		all = append(all, value(a))
	}
	return all
}

func noughts(count int) []*big.Rat {
	var all []*big.Rat
	for range count {
		all = append(all, new(big.Rat))
	}
	return all
}

// saidCon is the constraint of a rule, told by its values alone: K is what
// stands between L and R where all fields are 0, the number of a field is what
// a 1 of it adds.
func saidCon(f api.Form, x api.Rule, params []api.Rat) (api.Con, bool) {
	vals := noughts(len(f.Fields))
	k, ok := gap(f, x, values(params), vals)
	if !ok {
		return api.Con{}, false
	}
	c := api.Con{Strength: x.Strength, K: normal(k)}
	for i := range vals {
		vals[i] = big.NewRat(1, 1)
		one, _ := gap(f, x, values(params), vals)
		vals[i] = new(big.Rat)
		if one.Cmp(k) != 0 {
			c.Terms = append(c.Terms, api.Term{Var: i, C: normal(one.Sub(one, k))})
		}
	}
	return c, true
}

func saidLarge(a api.Rat) bool {
	return len(a.N) > api.MaxLimbs || len(a.D) > api.MaxLimbs
}

// isActive asks all switches.
func isActive(f api.Form, x api.Rule, on []bool) bool {
	for i, s := range f.Switches {
		if s.Name == x.When {
			return on[i]
		}
	}
	return true
}

// said is what Elab is to answer of params that are normal and not Large, and
// of as many of all as the form has.
func said(f api.Form, params []api.Rat, on []bool) (elab.Active, string, api.Errno) {
	if err, name := check.Static(f); err != api.OK {
		return elab.Active{}, name, err
	}
	var a elab.Active
	for i, x := range f.Rules {
		if !isActive(f, x, on) {
			continue
		}
		c, ok := saidCon(f, x, params)
		if !ok {
			return elab.Active{}, x.Name, api.ErrZero
		}
		a.Cons, a.Rules = append(a.Cons, c), append(a.Rules, i)
	}
	for i, c := range a.Cons {
		if saidLarge(c.K) || slices.ContainsFunc(c.Terms, func(t api.Term) bool { return saidLarge(t.C) }) {
			return elab.Active{}, f.Rules[a.Rules[i]].Name, api.ErrLarge
		}
	}
	return a, "", api.OK
}

// maker makes forms at random.
type maker struct {
	*rand.Rand
	zero  int // one divisor of so many may be 0
	large int // one number of so many may be long
}

// number is a number that a param may have.
func (m *maker) number() api.Rat {
	switch {
	case m.Intn(m.large) == 0:
		return fineRats()[m.Intn(len(fineRats()))]
	case m.Intn(m.zero) == 0:
		return whole(0)
	}
	return normal(big.NewRat(int64(1+m.Intn(9)-10*m.Intn(2)), int64(1+m.Intn(4))))
}

// fixed is an expression without fields.
func (m *maker) fixed(params []string) api.Expr {
	leaves := []api.Expr{tree(strconv.Itoa(1 + m.Intn(5))), tree("0.5")}
	for _, name := range params {
		leaves = append(leaves, named(name))
	}
	kinds := 3
	if m.Intn(m.zero) == 0 {
		leaves = append(leaves, tree("0"))
		kinds = 4
	}
	return grown(m.Rand, 1+m.Intn(5), leaves, kinds)
}

// divisor is seldom 0.
func (m *maker) divisor(params []string) api.Expr {
	if m.Intn(m.zero) == 0 {
		return m.fixed(params)
	}
	return tree([]string{"2", "0.5", "3", "-4"}[m.Intn(4)])
}

// side is linear.
func (m *maker) side(fields, params []string) api.Expr {
	e := m.fixed(params)
	if len(fields) > 0 && m.Intn(5) > 0 {
		e = named(fields[m.Intn(len(fields))])
	}
	for range m.Intn(6) {
		other := m.fixed(params)
		switch m.Intn(6) {
		case 0:
			e = node(api.ExprMul, e, other)
		case 1:
			e = node(api.ExprMul, other, e)
		case 2:
			e = node(api.ExprDiv, e, m.divisor(params))
		case 3:
			e = node(api.ExprNeg, e)
		default:
			if len(fields) > 0 && m.Intn(3) > 0 {
				other = node(api.ExprMul, other, named(fields[m.Intn(len(fields))]))
			}
			e = node(api.ExprAdd+m.Intn(2), e, other)
		}
	}
	return e
}

func (m *maker) names(ahead string, count int) []string {
	var list []string
	for i := range m.Intn(count) {
		list = append(list, ahead+strconv.Itoa(i))
	}
	return list
}

func (m *maker) form() api.Form {
	var f api.Form
	switches, params, fields, rules := m.names("s", 4), m.names("p", 5), m.names("f", 7), m.names("r", 7)
	for _, name := range switches {
		f.Switches = append(f.Switches, api.Switch{Name: name, On: m.Intn(2) == 0})
	}
	for _, name := range params {
		f.Params = append(f.Params, api.Param{Name: name, Val: m.number()})
	}
	f.Pages = []api.Page{{Name: "g0"}, {Name: "g1"}, {Name: "g2"}}
	for i, name := range fields {
		f.Fields = append(f.Fields, api.Field{Name: name, Page: i * 3 / len(fields)})
	}
	for _, name := range rules {
		x := api.Rule{Name: name, Strength: m.Intn(4), L: m.side(fields, params), R: m.side(fields, params)}
		if len(switches) > 0 && m.Intn(2) == 0 {
			x.When = switches[m.Intn(len(switches))]
		}
		f.Rules = append(f.Rules, x)
	}
	return f
}

func (m *maker) params(f api.Form) []api.Rat {
	var list []api.Rat
	for range f.Params {
		list = append(list, m.number())
	}
	return list
}

func (m *maker) states(f api.Form) []bool {
	var list []bool
	for range f.Switches {
		list = append(list, m.Intn(2) == 0)
	}
	return list
}

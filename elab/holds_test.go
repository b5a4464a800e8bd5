package elab_test

import (
	"math/big"
	"math/rand"
	"slices"
	"testing"

	"pantograph/aff"
	"pantograph/api"
	"pantograph/elab"
	"pantograph/rat"
	"pantograph/sheet"
)

// expectHolds is P9.3 of all constraints of a form at some values, by the
// project's calls and by the library's numbers. It tells how many hold.
func expectHolds(t *testing.T, f api.Form, params []api.Rat, a elab.Active, vals []api.Rat) int {
	t.Helper()
	count := 0
	for i, c := range a.Cons {
		x := f.Rules[a.Rules[i]]
		v := elab.Env(f, params)
		l, errL := aff.Value(x.L, v, vals)
		r, errR := aff.Value(x.R, v, vals)
		if errL != api.OK || errR != api.OK {
			t.Fatal("a side errs behind Elab:", errL, errR, f, params)
		}
		holds := rat.Zero(aff.At(c, vals))
		if holds != rat.Same(l, r) {
			t.Fatal("constraint", c, "holds:", holds, "but L is", l, "and R is", r, sheet.Print(f), params, vals)
		}
		between, _ := gap(f, x, values(params), values(vals))
		if holds != (between.Sign() == 0) {
			t.Fatal("constraint", c, "holds:", holds, "but between L and R is", between, sheet.Print(f), params, vals)
		}
		if holds {
			count++
		}
	}
	return count
}

// holding are values at which a constraint holds, if it has a term: its last
// variable makes it so.
func holding(c api.Con, vals []api.Rat) []api.Rat {
	vals = slices.Clone(vals)
	if len(c.Terms) == 0 {
		return vals
	}
	last := c.Terms[len(c.Terms)-1]
	sum := value(c.K)
	for _, t := range c.Terms[:len(c.Terms)-1] {
		sum.Add(sum, new(big.Rat).Mul(value(t.C), value(vals[t.Var])))
	}
	vals[last.Var] = normal(sum.Neg(sum.Quo(sum, value(last.C))))
	return vals
}

func (m *maker) vals(f api.Form) []api.Rat {
	var list []api.Rat
	for range f.Fields {
		list = append(list, normal(big.NewRat(int64(m.Intn(9)-4), int64(1+m.Intn(2)))))
	}
	return list
}

// P9.2, P9.3: many forms, each with many params, switches and values.
func TestRandomForms(t *testing.T) {
	m := &maker{Rand: rand.New(rand.NewSource(92))}
	errs := map[api.Errno]int{}
	kept, made, wrong := 0, 0, 0
	for i := range 1200 {
		m.zero, m.large = []int{3, 20, 1000}[i%3], []int{1000, 20, 4, 1000}[i%4]
		f := m.form()
		if !sheet.Is(f) {
			t.Fatal("the test's form may not be:", f)
		}
		for range 3 {
			params, on := m.params(f), m.states(f)
			a, name, err := elab.Elab(f, params, on)
			want, wantName, wantErr := said(f, params, on)
			if err != wantErr || name != wantName || !alikeActives(a, want) {
				t.Fatal("Elab answers", a, name, err, "not", want, wantName, wantErr, "of", sheet.Print(f), params, on)
			}
			errs[err]++
			for range 3 {
				vals := m.vals(f)
				held := expectHolds(t, f, params, a, vals)
				wrong += len(a.Cons) - held
				kept += held
			}
			for _, c := range a.Cons {
				if !aff.Is(c, len(f.Fields)) {
					t.Fatal("a constraint may not be:", c)
				}
				vals := holding(c, m.vals(f))
				if len(c.Terms) > 0 && !rat.Zero(aff.At(c, vals)) {
					t.Fatal("the test's values do not hold:", c, vals)
				}
				made += expectHolds(t, f, params, a, vals)
			}
		}
	}
	if errs[api.OK] < 1500 || errs[api.ErrZero] < 200 || errs[api.ErrLarge] < 100 || kept < 500 || made < 4000 || wrong < 4000 {
		t.Error("too few of a kind:", errs, kept, made, wrong)
	}
}

// P9.3: a form by hand, at all values of a small grid.
func TestHoldsAtAGrid(t *testing.T) {
	f := form(
		"switch s on", "switch s2 off", "param p 2", "param q -1/2", "page g", "field a", "field b", "page g2", "field d",
		"rule required r : a = b * p + d", "rule strong r2 when s : (a - b) / q = p * d - 1", "rule medium r3 when s2 : -a = 2 * (b - d) / p", "rule weak r4 : p * q = -1", "rule weak r5 when s : a = a + q", "rule weak r6 : a - b = -(b - a)", "rule weak r7 when s2 : d = p",
	)
	var grid []api.Rat
	for n := -4; n <= 4; n++ {
		grid = append(grid, normal(big.NewRat(int64(n), 2)))
	}
	count := 0
	for _, params := range [][]api.Rat{valsOf(f), wholes(1, 1), wholes(-2, 3), {small(1, 2), small(-2, 1)}} {
		for _, on := range [][]bool{{true, true}, {true, false}, {false, true}, {false, false}} {
			a, _, err := elab.Elab(f, params, on)
			if err != api.OK {
				t.Fatal("the test's form errs:", err)
			}
			for _, x := range grid {
				for _, y := range grid {
					for _, z := range grid {
						count += expectHolds(t, f, params, a, []api.Rat{x, y, z})
					}
				}
			}
		}
	}
	if count < 10000 {
		t.Error("too few hold:", count)
	}
}

// P9.3: values that are not normal, and long ones; a field that has none is 0.
func TestHoldsAtAnyValues(t *testing.T) {
	all := slices.Concat(roughRats(), largeRats(), fineRats())
	for _, rule := range lines("a = b", "a * k = b * j", "a + b = d", "a = 1", "a = o", "a * m = b", "a = b * w + 1", "a - b = d * m", "a = a", "1 = 2", "a / h + 1 = b - b") {
		f := sides(rule)
		a, _, err := elab.Elab(f, valsOf(f), nil)
		if err != api.OK {
			t.Fatal("the test's rule errs:", rule)
		}
		for i, x := range all {
			y := all[(i*7+3)%len(all)]
			for _, vals := range [][]api.Rat{{x, x, whole(0)}, {x, y, whole(1)}, {y, x, x}, holding(a.Cons[0], []api.Rat{x, y, x}), holding(a.Cons[0], []api.Rat{y, y, y}), {whole(0), whole(0), x}} {
				expectHolds(t, f, valsOf(f), a, vals)
			}
		}
	}
	f := sides("a + 1 = b + d + 1")
	a, _, _ := elab.Elab(f, valsOf(f), nil)
	for _, vals := range [][]api.Rat{nil, wholes(1), wholes(0), wholes(1, 1), wholes(1, 2), wholes(1, 2, -1)} {
		l, _ := aff.Value(f.Rules[0].L, elab.Env(f, nil), vals)
		r, _ := aff.Value(f.Rules[0].R, elab.Env(f, nil), vals)
		if rat.Zero(aff.At(a.Cons[0], vals)) != rat.Same(l, r) {
			t.Error("at", vals, "L is", l, "and R is", r)
		}
	}
}

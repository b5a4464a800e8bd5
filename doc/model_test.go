package doc_test

import (
	"math/big"
	"slices"
	"testing"

	"pantograph/aff"
	"pantograph/api"
	"pantograph/doc"
	"pantograph/elab"
	"pantograph/hier"
	"pantograph/sheet"
	"pantograph/solve"
)

// named is one of a document's constraints, with the name of what it is of.
type named struct {
	con  api.Con
	out  int
	name string
}

// consOf are a document's constraints, of which chapter 9 says those of rules.
func consOf(f api.Form, d doc.Doc) ([]named, string, api.Errno) {
	fields := len(f.Fields)
	if !slices.Equal([]int{len(d.Vals), len(d.Pins), len(d.Filled), len(d.Outs)}, []int{fields, fields, fields, len(f.Rules)}) {
		return nil, "", api.ErrArg
	}
	all, name, err := elab.Elab(f, d.Params, d.On)
	var list []named
	for i, c := range all.Cons {
		list = append(list, named{c, d.Outs[all.Rules[i]], f.Rules[all.Rules[i]].Name})
	}
	for i, p := range d.Pins {
		if err == api.OK && p.On {
			list = append(list, pinned(f, i, p))
		}
	}
	return list, name, err
}

func pinned(f api.Form, i int, p doc.Pin) named {
	k := new(big.Rat).Neg(value(p.Val))
	c := named{api.Con{Strength: 1, Terms: []api.Term{{Var: i, C: whole(1)}}, K: normal(k)}, -1, f.Fields[i].Name}
	if p.Tells {
		c.out = i
	}
	return c
}

// isDocument is what the document says of what is one.
func isDocument(f api.Form, d doc.Doc) bool {
	list, _, err := consOf(f, d)
	if err != api.OK || len(d.Vals) == 0 {
		return false
	}
	for i, p := range d.Pins {
		if !isFine(d.Vals[i]) || !isFine(p.Val) || !p.On && (p.Tells || len(p.Val.N) > 0) {
			return false
		}
	}
	for i, x := range f.Rules {
		isActive := x.When == "" || d.On[switchOf(f, x.When)]
		if !isActive && d.Outs[i] != -1 {
			return false
		}
	}
	if !mayTell(list) || !isForest(list, len(d.Vals)) {
		return false
	}
	walk := walkOf(list, len(d.Vals))
	for _, c := range list {
		if c.out == -1 && !isBlocked(c.con, walk) || c.out == -1 && c.con.Strength == 0 && len(c.con.Terms)+len(c.con.K.N) > 0 {
			return false
		}
		if c.out != -1 && sumOf(c.con, d.Vals).Sign() != 0 {
			return false
		}
	}
	return true
}

// mayTell tells whether each that tells a variable has it, and none is told
// twice.
func mayTell(list []named) bool {
	var told []int
	for _, c := range list {
		if c.out == -1 {
			continue
		}
		has := func(t api.Term) bool { return t.Var == c.out }
		if !slices.ContainsFunc(c.con.Terms, has) || slices.Contains(told, c.out) {
			return false
		}
		told = append(told, c.out)
	}
	return true
}

// isForest takes away, again and again, what has one neighbour or none: of a
// forest nothing is left.
func isForest(list []named, n int) bool {
	type edge struct{ variable, con int }
	var edges []edge
	for i, c := range list {
		for _, t := range c.con.Terms {
			edges = append(edges, edge{t.Var, i})
		}
	}
	for len(edges) > 0 {
		before := len(edges)
		for k := 0; k < len(edges); k++ {
			e := edges[k]
			var ofVariable, ofCon int
			for _, other := range edges {
				if other.variable == e.variable {
					ofVariable++
				}
				if other.con == e.con {
					ofCon++
				}
			}
			if ofVariable == 1 || ofCon == 1 {
				edges = slices.Delete(edges, k, k+1)
				k--
			}
		}
		if len(edges) == before {
			return false
		}
	}
	return true
}

// walkOf are the strengths of all variables.
func walkOf(list []named, n int) []int {
	walk := make([]int, n)
	var find func(v int) int
	find = func(v int) int {
		strength := 4
		for _, c := range list {
			if c.out != v {
				continue
			}
			strength = c.con.Strength
			for _, t := range c.con.Terms {
				if t.Var != v {
					strength = max(strength, find(t.Var))
				}
			}
		}
		return strength
	}
	for v := range walk {
		walk[v] = find(v)
	}
	return walk
}

func isBlocked(c api.Con, walk []int) bool {
	return !slices.ContainsFunc(c.Terms, func(t api.Term) bool { return walk[t.Var] > c.Strength })
}

// sumOf is what a constraint is at values.
func sumOf(c api.Con, val []api.Rat) *big.Rat {
	sum := value(c.K)
	for _, t := range c.Terms {
		sum.Add(sum, new(big.Rat).Mul(value(t.C), value(val[t.Var])))
	}
	return sum
}

// copyOf is a document in memory of its own.
func copyOf(d doc.Doc) doc.Doc {
	return doc.Doc{Params: slices.Clone(d.Params), On: slices.Clone(d.On), Vals: slices.Clone(d.Vals), Outs: slices.Clone(d.Outs), Pins: slices.Clone(d.Pins), Filled: slices.Clone(d.Filled)}
}

// phased is a document behind a phase of its constraints, of which chapter 15
// says how it ends, and of more that stand behind them; who of these tells.
func phased(f api.Form, d doc.Doc, more ...named) (doc.Doc, []bool, []string, api.Errno) {
	list, name, err := consOf(f, d)
	if err != api.OK {
		return doc.Doc{}, nil, wordsOf(name), err
	}
	var cons []api.Con
	var outs []int
	list = append(list, more...)
	for _, c := range list {
		cons, outs = append(cons, c.con), append(outs, c.out)
	}
	s, at, err := solve.Phase(cons, solve.State{Outs: outs, Vals: d.Vals})
	if err == api.ErrArg {
		return doc.Doc{}, nil, nil, err
	}
	if err != api.OK {
		return doc.Doc{}, nil, []string{list[at].name}, err
	}
	d = copyOf(d)
	d.Vals = s.Vals
	var tells []bool
	for i, c := range list {
		switch rule, field := ruleOf(f, c.name), fieldOf(f, c.name); {
		case i >= len(list)-len(more):
			tells = append(tells, s.Outs[i] >= 0)
		case rule >= 0:
			d.Outs[rule] = s.Outs[i]
		default:
			d.Pins[field].Tells = s.Outs[i] >= 0
		}
	}
	return d, tells, nil, api.OK
}

func wordsOf(name string) []string {
	if name == "" {
		return nil
	}
	return []string{name}
}

// said is what the document says of an operation.
func (o operation) said(f api.Form, d doc.Doc) (doc.Doc, []string, api.Errno) {
	if o.word == "new" {
		got, _, names, err := phased(f, blank(f))
		return got, names, err
	}
	if !isDocument(f, d) {
		return doc.Doc{}, nil, api.ErrArg
	}
	isField, places := o.word == "edit" || o.word == "pin" || o.word == "unpin", map[string]int{"param": paramOf(f, o.name), "switch": switchOf(f, o.name)}
	place := places[o.word]
	if isField {
		place = fieldOf(f, o.name)
	}
	if place < 0 {
		return doc.Doc{}, nil, api.ErrName
	}
	if (o.word == "edit" || o.word == "param") && !isFine(o.val) {
		return doc.Doc{}, []string{o.name}, api.ErrLarge
	}
	switch o.word {
	case "edit":
		return o.saidEdit(f, d, place)
	case "pin", "unpin":
		return o.saidPin(f, d, place)
	}
	was := copyOf(d)
	d = copyOf(d)
	if o.word == "param" {
		d.Params[place] = o.val
	} else {
		d.On[place] = o.on
	}
	before, _, _ := consOf(f, was)
	after, name, err := consOf(f, d)
	if err != api.OK {
		return doc.Doc{}, wordsOf(name), err
	}
	for i, x := range f.Rules {
		isOf := func(c named) bool { return c.name == x.Name }
		old, now := slices.IndexFunc(before, isOf), slices.IndexFunc(after, isOf)
		if old < 0 || now < 0 || !aff.Same(before[old].con, after[now].con) {
			d.Outs[i] = -1
		}
	}
	got, _, names, err := phased(f, d)
	return got, names, err
}

func (o operation) saidEdit(f api.Form, d doc.Doc, field int) (doc.Doc, []string, api.Errno) {
	d, tells, names, err := phased(f, d, pinned(f, field, doc.Pin{Val: o.val}))
	if err != api.OK {
		return doc.Doc{}, names, err
	}
	if !tells[0] {
		return doc.Doc{}, []string{o.name}, api.ErrBlocked
	}
	d, _, names, err = phased(f, d)
	if err == api.OK {
		d.Filled[field] = true
	}
	return d, names, err
}

func (o operation) saidPin(f api.Form, d doc.Doc, field int) (doc.Doc, []string, api.Errno) {
	isOn := d.Pins[field].On
	if o.word == "pin" && isOn {
		return doc.Doc{}, nil, api.ErrArg
	}
	if o.word == "unpin" && !isOn {
		return doc.Doc{}, nil, api.ErrNone
	}
	d = copyOf(d)
	d.Pins[field] = doc.Pin{Val: whole(0)}
	if o.word == "pin" {
		d.Pins[field] = doc.Pin{On: true, Val: d.Vals[field]}
	}
	got, _, names, err := phased(f, d)
	return got, names, err
}

// expectSaid holds what comes of an operation against what the document says
// of it, and what follows.
func expectSaid(t *testing.T, f api.Form, d doc.Doc, o operation) (doc.Doc, api.Errno) {
	t.Helper()
	want, names, err := o.said(f, d)
	if err != api.OK {
		expectRefused(t, f, d, o, err, names...)
		return doc.Doc{}, err
	}
	got, told, err := o.do(f, d)
	if err != api.OK || len(told) > 0 || !alikeDocs(got, want) {
		t.Fatalf("%v is %v, %q\n%s, not\n%s of\n%s%s", o, errorWord(err), told, inWords(f, got), inWords(f, want), sheet.Print(f), inWords(f, d))
	}
	expectBest(t, f, got)
	return got, api.OK
}

// expectBest: what P16.7 says of a document.
func expectBest(t *testing.T, f api.Form, d doc.Doc) {
	t.Helper()
	expectCons(t, f, d)
	if !isDocument(f, d) || !doc.Is(f, d) {
		t.Fatalf("what comes is no document: %s of\n%s", inWords(f, d), sheet.Print(f))
	}
	l, _, _ := doc.Cons(f, d)
	if beaten := hier.Beaten(l, d.Vals, d.Vals); beaten >= 0 {
		t.Fatalf("a document is beaten by %v: %s of\n%s", beaten, inWords(f, d), sheet.Print(f))
	}
	for _, c := range l {
		if c.Strength == 0 && sumOf(c, d.Vals).Sign() != 0 {
			t.Fatalf("a required rule does not hold: %s of\n%s", inWords(f, d), sheet.Print(f))
		}
	}
	if !doc.Same(d, doc.Own(d)) || !alikeDocs(d, doc.Own(d)) {
		t.Fatal("a document is not its own:", d)
	}
}

// expectCons holds Cons against what the document says of it.
func expectCons(t *testing.T, f api.Form, d doc.Doc) {
	t.Helper()
	list, _, err := consOf(f, d)
	l, outs, got := doc.Cons(f, d)
	isAlike := got == err && len(l) == len(list) && len(outs) == len(list)
	for i := 0; isAlike && i < len(list); i++ {
		isAlike = outs[i] == list[i].out && alikeCons(l[i], list[i].con)
	}
	if !isAlike {
		t.Fatalf("Cons is %v, %v, %q, not %v, %q of\n%s%v", l, outs, errorWord(got), list, errorWord(err), sheet.Print(f), d)
	}
}

func alikeCons(a, b api.Con) bool {
	return a.Strength == b.Strength && alike(a.K, b.K) && slices.EqualFunc(a.Terms, b.Terms, func(x, y api.Term) bool {
		return x.Var == y.Var && alike(x.C, y.C)
	})
}

// expectIs holds Is against what the document says of it.
func expectIs(t *testing.T, f api.Form, d doc.Doc, want bool) {
	t.Helper()
	if isDocument(f, d) != want || doc.Is(f, d) != want {
		t.Fatalf("Is is %v, the tests say %v, not %v of\n%s%v", doc.Is(f, d), isDocument(f, d), want, sheet.Print(f), d)
	}
}

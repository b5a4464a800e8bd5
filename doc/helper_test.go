package doc_test

import (
	"math/big"
	"slices"
	"strconv"
	"strings"
	"testing"

	"pantograph/api"
	"pantograph/doc"
	"pantograph/sheet"
)

const (
	most    = 1<<32 - 1
	highest = 1<<63 - 1
	lowest  = -1 << 63
)

// ratOf is a number as it is written, normal or not.
func ratOf(neg bool, n, d []uint32) api.Rat { return api.Rat{Neg: neg, N: n, D: d} }

// small is a number of small parts, as they are written.
func small(n int, d uint32) api.Rat {
	if n < 0 {
		return ratOf(true, []uint32{uint32(-n)}, []uint32{d})
	}
	return ratOf(false, []uint32{uint32(n)}, []uint32{d})
}

func whole(n int) api.Rat { return normal(big.NewRat(int64(n), 1)) }

// ones is a row of limbs that are all ones: the greatest number of so many.
func ones(count int) []uint32 { return slices.Repeat([]uint32{most}, count) }

func natural(a []uint32) *big.Int {
	n := new(big.Int)
	for _, limb := range slices.Backward(a) {
		n.Lsh(n, 32)
		n.Or(n, new(big.Int).SetUint64(uint64(limb)))
	}
	return n
}

func limbs(n *big.Int) []uint32 {
	var a []uint32
	for n = new(big.Int).Abs(n); n.Sign() > 0; n.Rsh(n, 32) {
		a = append(a, uint32(new(big.Int).And(n, big.NewInt(most)).Uint64()))
	}
	return a
}

// value is a number of the library: which numbers are normal is worked out
// without the packages of the project.
func value(a api.Rat) *big.Rat {
	n, d := natural(a.N), natural(a.D)
	if d.Sign() == 0 {
		return new(big.Rat)
	}
	if a.Neg {
		n.Neg(n)
	}
	return new(big.Rat).SetFrac(n, d)
}

// normal is a number of the library as the document writes it.
func normal(x *big.Rat) api.Rat {
	return ratOf(x.Sign() < 0, limbs(x.Num()), limbs(x.Denom()))
}

// alike tells whether two numbers are written alike, limb by limb.
func alike(a, b api.Rat) bool {
	return a.Neg == b.Neg && slices.Equal(a.N, b.N) && slices.Equal(a.D, b.D)
}

func isNormal(a api.Rat) bool { return alike(a, normal(value(a))) }

// isFine tells whether a number is normal and not Large.
func isFine(a api.Rat) bool { return isNormal(a) && len(a.N) <= 16 && len(a.D) <= 16 }

// number is one of a text. Behind a ^ stands of how many ones its bits are:
// ^512 is the greatest one that is not Large, 1/^512 the least one above 0,
// ^9*^9 a product.
func number(text string) api.Rat {
	if left, right, ok := strings.Cut(text, "*"); ok {
		return normal(new(big.Rat).Mul(value(number(left)), value(number(right))))
	}
	if upper, bits, ok := strings.Cut(text, "^"); ok {
		count, err := strconv.Atoi(bits)
		if err != nil {
			panic("the test's number is none: " + text)
		}
		n := new(big.Int).Lsh(big.NewInt(1), uint(count))
		x := new(big.Rat).SetInt(n.Sub(n, big.NewInt(1)))
		if upper != "" {
			x.Inv(x)
		}
		return normal(x)
	}
	x, ok := new(big.Rat).SetString(text)
	if !ok {
		panic("the test's number is none: " + text)
	}
	return normal(x)
}

// form is one of a text: fields with blanks between, then, behind a ; each,
// lines of switches and params, and rules without that word.
func form(text string) api.Form {
	parts := strings.Split(text, ";")
	lines := []string{"page sheet"}
	for _, field := range strings.Fields(parts[0]) {
		lines = append(lines, "field "+field)
	}
	for _, part := range parts[1:] {
		part = strings.TrimSpace(part)
		switch word, _, _ := strings.Cut(part, " "); word {
		case "switch", "param", "page", "field", "check":
			lines = append(lines, part)
		default:
			lines = append(lines, "rule "+part)
		}
	}
	f, line, err := sheet.Parse(strings.Join(lines, "\n"))
	if err != api.OK {
		panic("line " + strconv.Itoa(line) + " of the test's form is none: " + text)
	}
	return f
}

// grown is a form some of whose params are long numbers, of which sheet knows
// no short text.
func grown(f api.Form, params ...string) api.Form {
	for i, text := range params {
		f.Params[i].Val = number(text)
	}
	return f
}

// blank is the document of a form where all is as the form says, and nothing
// else.
func blank(f api.Form) doc.Doc {
	d := doc.Doc{Outs: slices.Repeat([]int{-1}, len(f.Rules)), Filled: make([]bool, len(f.Fields))}
	for _, x := range f.Params {
		d.Params = append(d.Params, x.Val)
	}
	for _, x := range f.Switches {
		d.On = append(d.On, x.On)
	}
	for range f.Fields {
		d.Vals = append(d.Vals, whole(0))
		d.Pins = append(d.Pins, doc.Pin{Val: whole(0)})
	}
	return d
}

func fieldOf(f api.Form, name string) int {
	return slices.IndexFunc(f.Fields, func(x api.Field) bool { return x.Name == name })
}

func ruleOf(f api.Form, name string) int {
	return slices.IndexFunc(f.Rules, func(x api.Rule) bool { return x.Name == name })
}

func switchOf(f api.Form, name string) int {
	return slices.IndexFunc(f.Switches, func(x api.Switch) bool { return x.Name == name })
}

func paramOf(f api.Form, name string) int {
	return slices.IndexFunc(f.Params, func(x api.Param) bool { return x.Name == name })
}

// document is one of a text, with commas between: a field, its value, and
// maybe `filled`, `pin` and a number (that of the value, if there is none),
// `tells` of the pin; a rule and the field that it tells; a switch and on or
// off; a param and its number. What is not said is as blank says.
func document(f api.Form, text string) doc.Doc {
	d := blank(f)
	for part := range strings.SplitSeq(text, ",") {
		words := strings.Fields(part)
		if len(words) == 0 {
			continue
		}
		name := words[0]
		switch {
		case fieldOf(f, name) >= 0:
			fill(&d, fieldOf(f, name), words[1:])
		case ruleOf(f, name) >= 0:
			d.Outs[ruleOf(f, name)] = fieldOf(f, words[1])
		case switchOf(f, name) >= 0:
			d.On[switchOf(f, name)] = words[1] == "on"
		case paramOf(f, name) >= 0:
			d.Params[paramOf(f, name)] = number(words[1])
		default:
			panic("the test's document has no " + name)
		}
	}
	return d
}

func fill(d *doc.Doc, i int, words []string) {
	d.Vals[i] = number(words[0])
	for k, word := range words[1:] {
		switch word {
		case "filled":
			d.Filled[i] = true
		case "pin":
			d.Pins[i].On, d.Pins[i].Val = true, d.Vals[i]
		case "tells":
			d.Pins[i].Tells = true
		default:
			if words[k] != "pin" {
				panic("the test's field is " + word)
			}
			d.Pins[i].Val = number(word)
		}
	}
}

// inWords is a document as such a text.
func inWords(f api.Form, d doc.Doc) string {
	var list []string
	for i, a := range d.Vals {
		text := f.Fields[i].Name + " " + value(a).RatString()
		if d.Filled[i] {
			text += " filled"
		}
		if p := d.Pins[i]; p.On || p.Tells || !alike(p.Val, whole(0)) {
			text += " pin " + value(p.Val).RatString()
			if p.Tells {
				text += " tells"
			}
		}
		list = append(list, text)
	}
	for i, out := range d.Outs {
		if out >= 0 && out < len(f.Fields) {
			list = append(list, f.Rules[i].Name+" "+f.Fields[out].Name)
		}
	}
	return strings.Join(list, ", ")
}

// alikeDocs tells whether two documents are written alike.
func alikeDocs(a, b doc.Doc) bool {
	alikePins := func(a, b doc.Pin) bool { return a.On == b.On && a.Tells == b.Tells && alike(a.Val, b.Val) }
	return slices.EqualFunc(a.Params, b.Params, alike) && slices.Equal(a.On, b.On) && slices.EqualFunc(a.Vals, b.Vals, alike) &&
		slices.Equal(a.Outs, b.Outs) && slices.EqualFunc(a.Pins, b.Pins, alikePins) && slices.Equal(a.Filled, b.Filled)
}

func isNothing(d doc.Doc) bool {
	return d.Params == nil && d.On == nil && d.Vals == nil && d.Outs == nil && d.Pins == nil && d.Filled == nil
}

func errorWord(err api.Errno) string {
	switch err {
	case api.ErrArg:
		return "arg"
	case api.ErrForm:
		return "form"
	case api.ErrLong:
		return "long"
	case api.ErrName:
		return "name"
	case api.ErrLinear:
		return "linear"
	case api.ErrZero:
		return "zero"
	case api.ErrLarge:
		return "large"
	case api.ErrCycle:
		return "cycle"
	case api.ErrForced:
		return "forced"
	case api.ErrBlocked:
		return "blocked"
	case api.ErrNone:
		return "none"
	}
	return err.Error()
}

// operation is what is done to a document: a word, a name, a number, on.
type operation struct {
	word, name string
	val        api.Rat
	on         bool
}

// operationOf is one of a text: new, edit NAME NUMBER, param NAME NUMBER, pin
// NAME, unpin NAME, switch NAME on, or off.
func operationOf(text string) operation {
	words := append(strings.Fields(text), "", "")
	o := operation{word: words[0], name: words[1]}
	switch o.word {
	case "edit", "param":
		o.val = number(words[2])
	case "switch":
		o.on = words[2] == "on"
	}
	return o
}

// do is what the package answers.
func (o operation) do(f api.Form, d doc.Doc) (doc.Doc, []string, api.Errno) {
	switch o.word {
	case "new":
		return doc.New(f)
	case "edit":
		return doc.Edit(f, d, o.name, o.val)
	case "pin", "unpin":
		return doc.SetPin(f, d, o.name, o.word == "pin")
	case "param":
		return doc.SetParam(f, d, o.name, o.val)
	case "switch":
		return doc.SetSwitch(f, d, o.name, o.on)
	}
	panic("the test does what there is not: " + o.word)
}

// expectRefused: an error, its names, and no Doc.
func expectRefused(t *testing.T, f api.Form, d doc.Doc, o operation, want api.Errno, names ...string) {
	t.Helper()
	got, told, err := o.do(f, d)
	if err != want || !slices.Equal(told, names) || !isNothing(got) {
		t.Fatalf("%v is %v, %v, %q, not %q, %q of\n%s%s", o, errorWord(err), got, told, errorWord(want), names, sheet.Print(f), inWords(f, d))
	}
}

// play does one after the other, by turns what is done and what comes of it: a
// document in words, or behind a ! the word of an error and names. The last
// document is answered.
func play(t *testing.T, f api.Form, steps ...string) doc.Doc {
	t.Helper()
	var d doc.Doc
	for i := 0; i < len(steps); i += 2 {
		o, want := operationOf(steps[i]), steps[i+1]
		got, names, err := o.do(f, d)
		expectSaid(t, f, d, o)
		if err != api.OK {
			if text := strings.Join(append([]string{"!" + errorWord(err)}, names...), " "); text != want {
				t.Fatalf("%q is %q, not %q of\n%s%s", steps[i], text, want, sheet.Print(f), inWords(f, d))
			}
			continue
		}
		if strings.HasPrefix(want, "!") || !alikeDocs(got, document(f, want)) {
			t.Fatalf("%q is\n%s, not\n%s, %q of\n%s%s", steps[i], inWords(f, got), want, names, sheet.Print(f), inWords(f, d))
		}
		d = got
	}
	return d
}

// roughNumbers are numbers that are not normal.
func roughNumbers() []api.Rat {
	return []api.Rat{
		{}, {Neg: true}, small(0, 5), ratOf(false, nil, []uint32{5}), ratOf(true, nil, []uint32{1}), ratOf(false, []uint32{1}, nil), ratOf(false, []uint32{0}, []uint32{1}), small(5, 0), small(-5, 0), ratOf(false, nil, []uint32{1, 0}),
		small(2, 2), small(-3, 3), small(6, 4), small(-6, 4), ratOf(false, []uint32{3, 0}, []uint32{2}), ratOf(false, []uint32{3}, []uint32{2, 0}), ratOf(true, []uint32{0, 1, 0}, []uint32{3}), ratOf(false, []uint32{0, 1}, []uint32{0, 3}),
		ratOf(false, append(ones(16), 0), []uint32{1}), ratOf(false, ones(16), ones(16)), ratOf(true, ones(17), ones(17)),
	}
}

// largeNumbers are numbers that are normal, and Large.
func largeNumbers() []api.Rat {
	next := append(make([]uint32, 16), 1)
	one := []uint32{1}
	return []api.Rat{ratOf(false, next, one), ratOf(true, next, one), ratOf(false, one, next), ratOf(true, one, next), ratOf(false, ones(17), one), ratOf(false, one, ones(17)), ratOf(false, next, ones(16)), ratOf(true, ones(16), next), ratOf(false, ones(1000), one), ratOf(false, one, ones(1000))}
}

// fineNumbers are numbers that are normal and not Large.
func fineNumbers() []api.Rat {
	one := []uint32{1}
	return []api.Rat{whole(0), whole(1), whole(-1), small(3, 2), small(-2, 3), ratOf(false, ones(16), one), ratOf(true, ones(16), one), ratOf(false, one, ones(16)), ratOf(true, ones(16), append(make([]uint32, 15), 1))}
}

// rewritten is a number as it may be written, too, though that is not normal.
func rewritten(a api.Rat, way int) api.Rat {
	if len(a.N) == 0 {
		return roughNumbers()[way%9]
	}
	switch by := big.NewInt(int64(2 + way)); way % 3 {
	case 0:
		return ratOf(a.Neg, append(slices.Clone(a.N), 0), a.D)
	case 1:
		return ratOf(a.Neg, a.N, append(slices.Clone(a.D), 0, 0))
	default:
		return ratOf(a.Neg, limbs(by.Mul(by, natural(a.N))), limbs(new(big.Int).Mul(big.NewInt(int64(2+way)), natural(a.D))))
	}
}

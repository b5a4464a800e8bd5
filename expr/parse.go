package expr

import (
	"strings"

	"pantograph/api"
	"pantograph/dec"
)

// Parse is a text as an expression.
func Parse(s string) (e api.Expr, at int, err api.Errno) {
	defer func() {
		if met := recover(); met != nil {
			at, err = told(met)
		}
	}()
	e = readAll(s)
	if !Is(e) {
		return api.Expr{}, 0, api.ErrLong
	}
	return e, 0, api.OK
}

// fault is what goes up by panic: an error, and the byte where it was met.
type fault struct {
	at  int
	err api.Errno
}

func told(met any) (int, api.Errno) {
	f, ok := met.(fault)
	if !ok {
		panic(met)
	}
	return f.at, f.err
}

// reader goes along a text, from the left.
type reader struct {
	text  string
	at    int
	deep  int // brackets and signs ahead that the place is within
	nodes int
}

func readAll(s string) api.Expr {
	r := &reader{text: s}
	e := r.sum()
	// Blanks at the end have been passed: a sign was looked for.
	if r.at < len(s) {
		r.fail(api.ErrForm)
	}
	return e
}

func (r *reader) sum() api.Expr     { return r.row(r.product, kindOfSum) }
func (r *reader) product() api.Expr { return r.row(r.factor, kindOfProduct) }

// row reads parts with signs between two, from the left.
func (r *reader) row(part func() api.Expr, kindOf func(sign byte) int) api.Expr {
	e := part()
	for kind := kindOf(r.next()); kind != 0; kind = kindOf(r.next()) {
		r.at++
		e = r.node(api.Expr{Kind: kind, Kids: []api.Expr{e, part()}})
	}
	return e
}

func kindOfSum(sign byte) int {
	switch sign {
	case '+':
		return api.ExprAdd
	case '-':
		return api.ExprSub
	}
	return 0
}

func kindOfProduct(sign byte) int {
	switch sign {
	case '*':
		return api.ExprMul
	case '/':
		return api.ExprDiv
	}
	return 0
}

func (r *reader) factor() api.Expr {
	b := r.next()
	switch {
	case b == '-':
		return r.signed()
	case b == '(':
		return r.bracketed()
	case isDigit(b):
		return r.number()
	case isLetter(b):
		return r.name()
	}
	r.fail(api.ErrForm)
	return api.Expr{}
}

func (r *reader) signed() api.Expr {
	r.enter()
	e := r.node(api.Expr{Kind: api.ExprNeg, Kids: []api.Expr{r.factor()}})
	r.deep--
	return e
}

func (r *reader) bracketed() api.Expr {
	r.enter()
	e := r.sum()
	if r.next() != ')' {
		r.fail(api.ErrForm)
	}
	r.at++
	r.deep--
	return e
}

// enter goes past a bracket, or a sign ahead, into what stands within it.
func (r *reader) enter() {
	r.deep++
	if r.deep == api.MaxDeep {
		r.fail(api.ErrDeep)
	}
	r.at++
}

func (r *reader) number() api.Expr {
	from := r.at
	r.pass(isDigit)
	if strings.HasPrefix(r.text[r.at:], ".") {
		r.at++
		if r.pass(isDigit) == 0 {
			r.fail(api.ErrForm)
		}
	}
	num, err := dec.Parse(r.text[from:r.at])
	if err != api.OK {
		// It has too many bytes, which is no error as long as one may be met
		// further on: a node of no kind tells that all of it may not be.
		return api.Expr{}
	}
	return r.node(api.Expr{Kind: api.ExprNum, Num: num})
}

func (r *reader) name() api.Expr {
	from := r.at
	if r.pass(isNameByte) > api.MaxName {
		r.at = from + api.MaxName
		r.fail(api.ErrForm)
	}
	return r.node(api.Expr{Kind: api.ExprName, Name: strings.Clone(r.text[from:r.at])})
}

// node counts nodes. Beyond MaxNodes it answers one of no kind in their place:
// a long text makes no great tree that may not be anyway.
func (r *reader) node(e api.Expr) api.Expr {
	r.nodes++
	if r.nodes > api.MaxNodes {
		return api.Expr{}
	}
	return e
}

// next goes past blanks, to the first byte of a word. At the end it is 0, which
// begins no word either.
func (r *reader) next() byte {
	for r.at < len(r.text) {
		if r.text[r.at] != ' ' {
			return r.text[r.at]
		}
		r.at++
	}
	return 0
}

// pass goes past all bytes of one kind, and tells how many there were.
func (r *reader) pass(isOne func(byte) bool) int {
	from := r.at
	for r.at < len(r.text) && isOne(r.text[r.at]) {
		r.at++
	}
	return r.at - from
}

func (r *reader) fail(err api.Errno) {
	panic(fault{r.at, err})
}

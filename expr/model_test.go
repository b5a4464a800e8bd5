package expr_test

import (
	"regexp"
	"strings"
	"testing"

	"pantograph/api"
	"pantograph/expr"
)

var (
	numberWord = regexp.MustCompile(`\A[0-9]+(\.[0-9]*)?`)
	nameWord   = regexp.MustCompile(`\A[a-z][a-z0-9_]*`)
)

// model reads texts as the document says, by two stacks and without calls
// within calls: signs wait until what binds as much has been read.
type model struct {
	text   string
	at     int
	wants  bool // a factor, not a sign between two
	waits  []byte
	trees  []tree
	isLong bool // a number had too many bytes
}

func (m *model) deep() int {
	return strings.Count(string(m.waits), "(") + strings.Count(string(m.waits), "n")
}

// settle makes trees of the signs that wait last and are among some.
func (m *model) settle(among string) {
	kinds := map[byte]int{'+': api.ExprAdd, '-': api.ExprSub, '*': api.ExprMul, '/': api.ExprDiv}
	for len(m.waits) > 0 && strings.IndexByte(among, m.waits[len(m.waits)-1]) >= 0 {
		sign := m.waits[len(m.waits)-1]
		m.waits = m.waits[:len(m.waits)-1]
		last := len(m.trees) - 1
		if sign == 'n' {
			m.trees[last] = neg(m.trees[last])
			continue
		}
		m.trees = append(m.trees[:last-1], two(kinds[sign], m.trees[last-1], m.trees[last]))
	}
}

func (m *model) found(x tree) {
	m.trees = append(m.trees, x)
	m.wants = false
	m.settle("n")
}

// factor reads what may stand where a factor begins.
func (m *model) factor() api.Errno {
	rest := m.text[m.at:]
	switch word := numberWord.FindString(rest) + nameWord.FindString(rest); {
	case rest[0] == '(' || rest[0] == '-':
		if m.deep() >= api.MaxDeep-1 {
			return api.ErrDeep
		}
		m.waits = append(m.waits, map[byte]byte{'(': '(', '-': 'n'}[rest[0]])
		m.at++
	case word == "":
		return api.ErrForm
	case nameWord.MatchString(rest):
		m.at += min(len(word), api.MaxName)
		m.found(named(word))
	default:
		m.at += len(word)
		if strings.HasSuffix(word, ".") {
			return api.ErrForm
		}
		m.isLong = m.isLong || len(word) > 400
		m.found(number(word))
	}
	return api.OK
}

// behind reads what may stand behind a factor.
func (m *model) behind() api.Errno {
	sign := m.text[m.at]
	switch sign {
	case '+', '-':
		m.settle("+-*/")
		m.wants = true
		m.waits = append(m.waits, sign)
	case '*', '/':
		m.settle("*/")
		m.wants = true
		m.waits = append(m.waits, sign)
	case ')':
		m.settle("+-*/")
		if len(m.waits) == 0 {
			return api.ErrForm
		}
		m.waits = m.waits[:len(m.waits)-1]
		m.settle("n")
	default:
		return api.ErrForm
	}
	m.at++
	return api.OK
}

// read is what Parse is to answer.
func read(s string) (tree, int, api.Errno) {
	m := &model{text: s, wants: true}
	for {
		for m.at < len(s) && s[m.at] == ' ' {
			m.at++
		}
		if m.at == len(s) {
			break
		}
		step := m.behind
		if m.wants {
			step = m.factor
		}
		if err := step(); err != api.OK {
			return tree{}, m.at, err
		}
	}
	if m.wants {
		return tree{}, len(s), api.ErrForm
	}
	m.settle("+-*/")
	if len(m.waits) > 0 {
		return tree{}, len(s), api.ErrForm
	}
	if m.isLong || !m.trees[0].mayBe() {
		return tree{}, 0, api.ErrLong
	}
	return m.trees[0], 0, api.OK
}

func short(s string) string {
	if len(s) > 200 {
		return s[:100] + " .. " + s[len(s)-100:]
	}
	return s
}

// checkParse holds Parse of a text against the model.
func checkParse(t *testing.T, s string) {
	t.Helper()
	x, at, err := read(s)
	if err != api.OK {
		expectRefused(t, s, at, err)
		return
	}
	expectParsed(t, s, x)
}

func expectParsed(t *testing.T, s string, want tree) {
	t.Helper()
	got, at, err := expr.Parse(s)
	if err != api.OK || at != 0 {
		t.Fatalf("Parse refuses %q: %v at %d", short(s), err, at)
	}
	if !alike(got, exprOf(want)) {
		t.Fatalf("Parse of %q answers %v", short(s), got)
	}
}

func expectRefused(t *testing.T, s string, at int, err api.Errno) {
	t.Helper()
	got, gotAt, gotErr := expr.Parse(s)
	if gotErr != err || gotAt != at {
		t.Fatalf("Parse of %q (%d bytes) answers %v at %d, not %v at %d", short(s), len(s), gotErr, gotAt, err, at)
	}
	// W3: the expression is the zero value.
	if !alike(got, api.Expr{}) || got.Kids != nil || got.Num.N != nil || got.Num.D != nil {
		t.Fatalf("Parse of %q answers %v with an error", short(s), got)
	}
}

package sheet

import (
	"slices"
	"strings"

	"pantograph/api"
	"pantograph/dec"
	"pantograph/expr"
)

// words are those of a line that are still to be read.
type words struct {
	left []string
	none bool // one was missing, or not what it had to be
}

func wordsOf(s string) *words {
	return &words{left: strings.FieldsFunc(s, func(r rune) bool { return r == ' ' })}
}

// fit tells, behind the last word, whether all were what they had to be.
func (w *words) fit() bool {
	return !w.none && len(w.left) == 0
}

// next is nothing, if there is no word: that is none of any kind.
func (w *words) next() string {
	if len(w.left) == 0 {
		return ""
	}
	word := w.left[0]
	w.left = w.left[1:]
	return word
}

// take goes past a word that may stand here or not.
func (w *words) take(word string) bool {
	if len(w.left) == 0 || w.left[0] != word {
		return false
	}
	w.left = w.left[1:]
	return true
}

func (w *words) name() string {
	word := w.next()
	w.must(expr.Name(word))
	return strings.Clone(word)
}

func (w *words) when() string {
	if !w.take("when") {
		return ""
	}
	return w.name()
}

// oneOf is which of some words it is.
func (w *words) oneOf(list []string) int {
	i := slices.Index(list, w.next())
	w.must(i >= 0)
	return i
}

func (w *words) number() api.Rat {
	a, err := dec.Parse(w.next())
	w.must(err == api.OK)
	return a
}

func (w *words) scale() int {
	if !w.take("scale") {
		return 0
	}
	word := w.next()
	if len(word) != 1 || word[0] < '0' || word[0] > '9' {
		w.none = true
		return 0
	}
	return int(word[0] - '0')
}

func (w *words) must(hold bool) {
	w.none = w.none || !hold
}

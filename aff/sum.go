package aff

import (
	"slices"

	"pantograph/api"
	"pantograph/rat"
)

// Add is both together.
func Add(a, b api.Con) api.Con {
	return api.Con{Strength: a.Strength, Terms: merge(a.Terms, b.Terms), K: rat.Add(a.K, b.K)}
}

// merge makes one row of two that rise.
func merge(a, b []api.Term) []api.Term {
	var row []api.Term
	for len(a) > 0 && len(b) > 0 {
		switch {
		case a[0].Var < b[0].Var:
			row = with(row, a[0].Var, rat.Norm(a[0].C))
			a = a[1:]
		case a[0].Var > b[0].Var:
			row = with(row, b[0].Var, rat.Norm(b[0].C))
			b = b[1:]
		default:
			row = with(row, a[0].Var, rat.Add(a[0].C, b[0].C))
			a, b = a[1:], b[1:]
		}
	}
	// One of them is at its end.
	for _, t := range slices.Concat(a, b) {
		row = with(row, t.Var, rat.Norm(t.C))
	}
	return row
}

// with is a row and one more term, unless that is 0. The row and the number
// are the call's own.
func with(row []api.Term, place int, c api.Rat) []api.Term {
	if rat.Zero(c) {
		return row
	}
	return append(row, api.Term{Var: place, C: c})
}

// Scale is it so often.
func Scale(a api.Con, by api.Rat) api.Con {
	var row []api.Term
	for _, t := range a.Terms {
		row = with(row, t.Var, rat.Mul(t.C, by))
	}
	return api.Con{Strength: a.Strength, Terms: row, K: rat.Mul(a.K, by)}
}

// At is what it is at values.
func At(a api.Con, val []api.Rat) api.Rat {
	sum := rat.Norm(a.K)
	for _, t := range a.Terms {
		sum = rat.Add(sum, rat.Mul(t.C, pick(val, t.Var)))
	}
	return sum
}

// pick is the number at a place; 0, where there is none.
func pick(list []api.Rat, place int) api.Rat {
	if place < 0 || place >= len(list) {
		return rat.Int(0)
	}
	return list[place]
}

// Is tells whether it may be.
func Is(a api.Con, n int) bool {
	return api.Required <= a.Strength && a.Strength <= api.Stay && rat.Is(a.K) && areTerms(a.Terms, n)
}

func areTerms(row []api.Term, n int) bool {
	last := -1
	for _, t := range row {
		if t.Var <= last || t.Var >= n || !rat.Is(t.C) || rat.Zero(t.C) {
			return false
		}
		last = t.Var
	}
	return true
}

// Same tells whether two are one.
func Same(a, b api.Con) bool {
	return a.Strength == b.Strength && rat.Same(a.K, b.K) && slices.EqualFunc(a.Terms, b.Terms, sameTerm)
}

func sameTerm(a, b api.Term) bool {
	return a.Var == b.Var && rat.Same(a.C, b.C)
}

package gauss

import (
	"cmp"
	"slices"

	"pantograph/aff"
	"pantograph/api"
	"pantograph/rat"
)

// stairs are rows no two of which begin with the same variable: whatever is
// put together of them begins as one of them does, or has no terms.
type stairs struct {
	rows     map[int]api.Con // by the first variable
	isBroken bool            // a sum without terms was left that is not 0
}

// stairsOf are the rows of all sums that may be.
func stairsOf(l []api.Con, n int) *stairs {
	s := &stairs{rows: map[int]api.Con{}}
	// Short ones first: taken from the long ones they leave little, while long
	// ones that are taken from short ones leave much.
	l = slices.Clone(l)
	slices.SortStableFunc(l, func(a, b api.Con) int { return cmp.Compare(len(a.Terms), len(b.Terms)) })
	for _, c := range l {
		if aff.Is(c, n) {
			s.add(c)
		}
	}
	return s
}

func (s *stairs) add(c api.Con) {
	c = s.rest(c)
	switch {
	case len(c.Terms) > 0:
		s.rows[c.Terms[0].Var] = inLowest(c)
	case !isNothing(c):
		s.isBroken = true
	}
}

// rest is what is left of a sum, or of a multiple of it, when rows are taken
// from it until none begins as it does.
func (s *stairs) rest(c api.Con) api.Con {
	for len(c.Terms) > 0 {
		row, ok := s.rows[c.Terms[0].Var]
		if !ok {
			break
		}
		c = less(c, row)
	}
	return c
}

// less takes a row from a sum that begins with the same variable, each as
// often as makes that variable go. That is a whole number of times: fractions
// take longer to add.
func less(c, row api.Con) api.Con {
	ratio, _ := rat.Div(c.Terms[0].C, row.Terms[0].C)
	return aff.Add(aff.Scale(c, whole(ratio.D)), aff.Scale(row, rat.Of(!ratio.Neg, ratio.N, one())))
}

// inLowest is a sum with terms, so often that all its numbers are whole, and
// nothing goes into all of them: what did would go on into each sum that the
// row is taken from, and numbers would be far longer than they need.
func inLowest(c api.Con) api.Con {
	unit := c.Terms[0].C
	for _, t := range c.Terms[1:] {
		unit = common(unit, t.C)
	}
	often, _ := rat.Div(rat.Int(1), common(unit, c.K))
	return aff.Scale(c, often)
}

// common is the greatest number of which both are whole multiples, or that
// with the other sign. a is not 0.
func common(a, b api.Rat) api.Rat {
	ratio, _ := rat.Div(b, a)
	unit, _ := rat.Div(a, whole(ratio.D))
	return unit
}

func isNothing(c api.Con) bool { return len(c.Terms) == 0 && rat.Zero(c.K) }

func whole(n []uint32) api.Rat { return rat.Of(false, n, one()) }

func one() []uint32 { return rat.Int(1).N }

package graph_test

import (
	"slices"
	"testing"

	"pantograph/api"
	"pantograph/graph"
)

func isNormal(a api.Rat) bool { return alike(a, normal(value(a))) }

// mayBe tells whether a constraint may be of n variables.
func mayBe(c api.Con, n int) bool {
	vars := []int{-1}
	for _, t := range c.Terms {
		if !isNormal(t.C) || value(t.C).Sign() == 0 {
			return false
		}
		vars = append(vars, t.Var)
	}
	for i := range vars[1:] {
		if vars[i] >= vars[i+1] {
			return false
		}
	}
	return vars[len(vars)-1] < n && slices.Contains([]int{0, 1, 2, 3, 4}, c.Strength) && isNormal(c.K)
}

func saidHeld(n int) int {
	switch {
	case n < 0:
		return 0
	case n > 64:
		return 64
	}
	return n
}

// reach tells of each variable, and of each other one, whether they are joined
// by constraints: at once, or over variables between.
type reach [][]bool

func reachOf(n int) reach {
	var r reach
	for v := range n {
		r = append(r, make([]bool, n))
		r[v][v] = true
	}
	return r
}

// put joins the variables of a constraint that may be: whatever reaches one of
// them reaches all that another one reaches.
func (r reach) put(c api.Con) {
	if !mayBe(c, len(r)) {
		return
	}
	for _, s := range c.Terms {
		for _, t := range c.Terms {
			r[s.Var][t.Var] = true
		}
	}
	for between := range r {
		for from := range r {
			for to := range r {
				if r[from][between] && r[between][to] {
					r[from][to] = true
				}
			}
		}
	}
}

// said is what the document says of constraints.
type said struct {
	first int
	apart []int
}

func saidOf(l []api.Con, n int) said {
	r, first := reachOf(saidHeld(n)), -1
	for i, c := range l {
		if first < 0 && mayBe(c, len(r)) && r.hasTwo(c) {
			first = i
		}
		r.put(c)
	}
	var apart []int
	for _, reached := range r {
		apart = append(apart, slices.Index(reached, true))
	}
	return said{first, apart}
}

// hasTwo tells whether two variables of a constraint are joined.
func (r reach) hasTwo(c api.Con) bool {
	for i, s := range c.Terms {
		for _, t := range c.Terms[:i] {
			if r[s.Var][t.Var] {
				return true
			}
		}
	}
	return false
}

// isForest is told by counting: of a forest, and of nothing else, there are as
// many parts as variables and constraints, but for one less for each Term.
func isForest(l []api.Con, n int) bool {
	r := reachOf(saidHeld(n))
	count := len(r)
	for _, c := range l {
		if mayBe(c, len(r)) {
			r.put(c)
			count += 1 - len(c.Terms)
			if len(c.Terms) == 0 {
				count-- // a part by itself
			}
		}
	}
	for v, reached := range r {
		if slices.Index(reached, true) == v {
			count--
		}
	}
	return count == 0
}

// expectSaid holds all that is told of constraints against what the document
// says of them.
func expectSaid(t *testing.T, l []api.Con, n int) said {
	t.Helper()
	s := saidOf(l, n)
	expectFirst(t, l, n, s.first)
	expectApart(t, l, n, s.apart)
	if got := graph.Forest(l, n); got != isForest(l, n) {
		t.Fatalf("Forest is %v of %v variables: %v", got, n, l)
	}
	return s
}

// What the tests say of some constraints by hand.
func TestSaid(t *testing.T) {
	for _, x := range []struct {
		cons  string
		n     int
		first int
		apart []int
	}{
		{"", 0, -1, nil}, {"", 3, -1, []int{0, 1, 2}}, {"-", 1, -1, []int{0}}, {"ab bc ac", 3, 2, []int{0, 0, 0}}, {"ab bc ac", 2, -1, []int{0, 0}}, {"bd ac cd", 5, -1, []int{0, 0, 0, 0, 4}}, {"bd ac cd abc", 5, 3, []int{0, 0, 0, 0, 4}}, {"bd bd", 4, 1, []int{0, 1, 2, 1}},
	} {
		s := saidOf(cons(x.cons), x.n)
		if s.first != x.first || !slices.Equal(s.apart, x.apart) || isForest(cons(x.cons), x.n) != (x.first < 0) {
			t.Error("of", x.cons, "the tests say", s)
		}
	}
	for _, c := range badCons() {
		if mayBe(c, 64) {
			t.Error("the test's constraint may be:", c)
		}
	}
}

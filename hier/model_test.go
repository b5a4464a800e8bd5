package hier_test

import (
	"math/big"
	"math/rand"
	"slices"
	"testing"

	"pantograph/api"
)

// line is a constraint as a row of all its numbers, K behind those of the
// variables.
type line []*big.Rat

func newLine(n int) line {
	l := make(line, n+1)
	for i := range l {
		l[i] = new(big.Rat)
	}
	return l
}

// mayBe tells whether a constraint may be of n variables.
func mayBe(c api.Con, n int) bool {
	vars := []int{-1}
	for _, t := range c.Terms {
		if !isNormal(t.C) || value(t.C).Sign() == 0 {
			return false
		}
		vars = append(vars, t.Var)
	}
	for i := range vars[1:] {
		if vars[i] >= vars[i+1] {
			return false
		}
	}
	return vars[len(vars)-1] < n && slices.Contains([]int{0, 1, 2, 3, 4}, c.Strength) && isNormal(c.K)
}

// asked is one of all constraints; one that may not be has no line.
type asked struct {
	strength int
	line     line
	isTrue   bool // at the values
}

// said is what the document says of constraints.
type said struct {
	n   int
	all []asked
	at  []*big.Rat
}

func saidOf(l []api.Con, before, val []api.Rat) *said {
	s := &said{n: len(val)}
	for _, x := range val {
		s.at = append(s.at, value(x))
	}
	for _, c := range l {
		a := asked{strength: c.Strength, isTrue: true}
		if mayBe(c, s.n) {
			a.line = newLine(s.n)
			a.line[s.n] = value(c.K)
			for _, t := range c.Terms {
				a.line[t.Var] = value(t.C)
			}
			a.isTrue = a.line.isTrue(s.at)
		}
		s.all = append(s.all, a)
	}
	for v := range val {
		stay := newLine(s.n)
		stay[v].SetInt64(1)
		if v < len(before) {
			stay[s.n].Neg(value(before[v]))
		}
		s.all = append(s.all, asked{4, stay, stay.isTrue(s.at)})
	}
	return s
}

// isTrue tells whether a row is 0 at values.
func (l line) isTrue(at []*big.Rat) bool {
	all := new(big.Rat).Set(l[len(at)])
	for v, x := range at {
		all.Add(all, new(big.Rat).Mul(l[v], x))
	}
	return all.Sign() == 0
}

func (a asked) holds(at []*big.Rat) bool { return a.line == nil || a.line.isTrue(at) }

// witness are values at which one that does not hold does, beside all that
// hold and are not weaker; nothing, if there are none.
func (s *said) witness(i int) []*big.Rat {
	rows := []line{s.all[i].line}
	for _, other := range s.all {
		if other.line != nil && other.strength <= s.all[i].strength && other.isTrue {
			rows = append(rows, other.line)
		}
	}
	return solved(rows, s.n)
}

// could are the numbers of all that do not hold, though they could.
func (s *said) could() []int {
	var list []int
	for i, a := range s.all {
		if s.n <= 64 && !a.isTrue && s.witness(i) != nil {
			list = append(list, i)
		}
	}
	return list
}

func (s *said) beaten() int {
	if list := s.could(); len(list) > 0 {
		return list[0]
	}
	return -1
}

// isBetter tells whether at other values, up to some Strength, all hold that
// hold at these, and one more.
func (s *said) isBetter(other []*big.Rat) bool {
	for strength := range 5 {
		isMore := false
		for _, a := range s.all {
			if a.strength > strength {
				continue
			}
			is, was := a.holds(other), a.isTrue
			if was && !is {
				return false
			}
			isMore = isMore || is && !was
		}
		if isMore {
			return true
		}
	}
	return false
}

// solved are values at which all rows are 0; nothing, if there are none.
func solved(rows []line, n int) []*big.Rat {
	var stairs []line // each has a variable of its own, by itself once
	var own []int
	for _, l := range rows {
		rest := slices.Clone(l)
		for i, v := range own {
			rest = rest.less(stairs[i], v)
		}
		v := slices.IndexFunc(rest, func(x *big.Rat) bool { return x.Sign() != 0 })
		if v == n {
			return nil
		}
		if v < 0 {
			continue
		}
		by := new(big.Rat).Inv(rest[v])
		for i, x := range rest {
			rest[i] = new(big.Rat).Mul(x, by)
		}
		for i, l := range stairs {
			stairs[i] = l.less(rest, v)
		}
		stairs, own = append(stairs, rest), append(own, v)
	}
	at := newLine(n)[:n]
	for i, v := range own {
		at[v] = new(big.Rat).Neg(stairs[i][n])
	}
	return at
}

// less is a row without a variable, that another one has once.
func (l line) less(other line, v int) line {
	rest := slices.Clone(l)
	if by := l[v]; by.Sign() != 0 {
		for i, x := range other {
			rest[i] = new(big.Rat).Sub(l[i], new(big.Rat).Mul(by, x))
		}
	}
	return rest
}

// What the tests solve is solved, and where they find no values there are
// none: then rows together have no variable, but a number.
func TestSolvedOfTheTests(t *testing.T) {
	r := rand.New(rand.NewSource(120))
	found, none := 0, 0
	for range 3000 {
		n, rows := r.Intn(5), []line(nil)
		for range r.Intn(7) {
			l := newLine(n)
			for i := range l {
				l[i] = big.NewRat(int64(r.Intn(5)-2), int64(1+r.Intn(2)))
			}
			rows = append(rows, l)
		}
		// How often each row is taken: no variable is left, and the number 1.
		turned := make([]line, n+1)
		for i := range turned {
			turned[i] = newLine(len(rows))
			for k, l := range rows {
				turned[i][k] = l[i]
			}
		}
		turned[n][len(rows)] = big.NewRat(-1, 1)
		at, often := solved(rows, n), solved(turned, len(rows))
		switch {
		case (at == nil) == (often == nil):
			t.Fatal("both or neither is solved:", rows, at, often)
		case at != nil && slices.ContainsFunc(rows, func(l line) bool { return !l.isTrue(at) }):
			t.Fatal("not at these values:", rows, at)
		case often != nil && slices.ContainsFunc(turned, func(l line) bool { return !l.isTrue(often) }):
			t.Fatal("not so often:", rows, often)
		case at != nil:
			found++
		default:
			none++
		}
	}
	if found < 1000 || none < 1000 {
		t.Error("too few of a kind:", found, none)
	}
}

// What the tests say of some constraints by hand.
func TestSaid(t *testing.T) {
	for _, x := range []struct {
		cons, before, val string
		could             []int
	}{
		{"", "", "", nil}, {"", "1", "1", nil}, {"", "1", "2 0 3", []int{0, 2}}, {"weak a = 5", "1", "1", []int{0}}, {"weak a = 5", "1", "5", nil}, {"weak a = 5", "1", "2", []int{0, 1}},
		{"required a = 1, weak a = 5", "1", "1", nil}, {"weak a = 5, required a = 1", "5", "5", []int{1}}, {"required a + b = 3, strong a - b = 1, weak a = 5, medium c = 1, required a = b", "", "2 1 0", []int{3, 4}},
		{"weak a = 1, weak a = 2, stay b = 9, required 1 = 0", "1 1", "3 1", []int{0, 1, 4}}, {"required b = 1, weak a = 2", "1", "1", []int{1}},
	} {
		s := saidOf(cons(x.cons), numbers(x.before), numbers(x.val))
		if got := s.could(); !slices.Equal(got, x.could) {
			t.Error("of", x.cons, "the tests say", got)
		}
		for _, i := range x.could {
			if !s.isBetter(s.witness(i)) {
				t.Error("of", x.cons, "no better values for", i)
			}
		}
	}
	s := saidOf(cons("strong a = 1, weak b = 1"), numbers("7 0"), numbers("1 0"))
	for _, x := range []struct {
		val      string
		isBetter bool
	}{
		{"1 0", false}, {"1 1", true}, {"2 1", false}, {"7 0", false}, {"7 1", false}, {"1 5", false},
	} {
		if got := s.isBetter(saidOf(nil, nil, numbers(x.val)).at); got != x.isBetter {
			t.Error("the tests say that", x.val, "is better:", got)
		}
	}
	for _, n := range []int{0, 1, 2, 3, 64} {
		for _, c := range badCons(n) {
			if mayBe(c, n) {
				t.Error("the test's constraint may be:", c)
			}
		}
	}
}

// levelsOf are how many do not hold, of each Strength but Stay.
func levelsOf(l []api.Con, s *said) []int {
	count := make([]int, 4)
	for i, c := range l {
		if c.Strength != 4 && !s.all[i].isTrue {
			count[c.Strength]++
		}
	}
	return count
}

// expectSaid holds what is told of constraints against what the document says
// of them.
func expectSaid(t *testing.T, l []api.Con, before, val []api.Rat) *said {
	t.Helper()
	s := saidOf(l, before, val)
	expectBeaten(t, l, before, val, s.beaten())
	expectLevels(t, l, val, levelsOf(l, s)...)
	return s
}

package aff_test

import (
	"math"
	"math/rand"
	"slices"
	"testing"

	"pantograph/aff"
	"pantograph/api"
)

// P8.1: sums that may be, of n variables, but of none less.
func TestIs(t *testing.T) {
	for _, x := range []struct {
		a api.Con
		n int
	}{
		{con(0, whole(0)), 0}, {con(4, whole(0)), 0}, {con(1, small(-1, 3)), 0}, {api.Con{Terms: []api.Term{}, K: whole(5)}, 0},
		{con(0, whole(0), row(0, 1)...), 1}, {con(4, whole(-7), row(0, -1)...), 1}, {con(2, whole(1), row(1, 1)...), 2}, {con(3, whole(1), row(0, 3, 1, -3)...), 2},
		{con(0, whole(1), row(0, 1, 5, 1, 6, 2)...), 7}, {con(0, small(3, 2), term(3, small(1, 2)), term(63, small(-2, 3))), 64},
		{con(0, whole(0), row(1000, 1)...), 1001}, {con(0, whole(0), row(math.MaxInt-1, 1)...), math.MaxInt},
		{con(0, ratOf(true, slices.Repeat([]uint32{most}, 40), []uint32{2}), term(0, ratOf(false, []uint32{3}, slices.Repeat([]uint32{2}, 40)))), 1},
	} {
		for _, n := range []int{x.n, x.n + 1, x.n + 64, math.MaxInt} {
			if n >= x.n && !aff.Is(x.a, n) {
				t.Error("may not be of", n, x.a)
			}
		}
		if aff.Is(x.a, x.n-1) != (len(x.a.Terms) == 0) {
			t.Error("of", x.n-1, x.a)
		}
	}
}

// P8.1: without terms it may be of any n.
func TestIsOfNoVariables(t *testing.T) {
	for _, n := range []int{0, -1, -64, math.MinInt} {
		if !aff.Is(con(0, whole(3)), n) {
			t.Error("a sum without terms may not be of", n)
		}
		if aff.Is(con(0, whole(3), row(0, 1)...), n) || aff.Is(con(0, whole(3), row(-1, 1)...), n) || aff.Is(con(0, whole(3), row(n, 1)...), n) || aff.Is(con(0, whole(3), row(n-1, 1)...), n) {
			t.Error("a sum with a term may be of", n)
		}
	}
}

// P8.1: what may not be, one thing at a time.
func TestIsNot(t *testing.T) {
	good := func() api.Con {
		return con(2, small(1, 2), term(0, whole(1)), term(2, small(-2, 3)), term(4, whole(7)))
	}
	if !aff.Is(good(), 5) {
		t.Fatal("the test's sum may not be")
	}
	for strength := range 5 {
		if a := good(); !aff.Is(con(strength, a.K, a.Terms...), 5) {
			t.Error("may not be of Strength", strength)
		}
	}
	for _, strength := range []int{-1, 5, 6, -5, math.MinInt, math.MaxInt, 1 << 32, 256} {
		if a := good(); aff.Is(con(strength, a.K, a.Terms...), 5) {
			t.Error("may be of Strength", strength)
		}
	}
	for place, vars := range [][]int{
		{-1, -2, math.MinInt, 2, 3, 4, 5, math.MaxInt},
		{0, -1, 4, 5, 6, math.MinInt, math.MaxInt},
		{2, 1, 0, -1, 5, 6, 1 << 32, math.MinInt, math.MaxInt},
	} {
		for _, v := range vars {
			a := good()
			if a.Terms[place].Var = v; aff.Is(a, 5) {
				t.Error("may be with the variables of", a.Terms)
			}
		}
	}
	for _, c := range rough() {
		isNormal := alike(c, normal(value(c)))
		for place := range good().Terms {
			a := good()
			if a.Terms[place].C = c; aff.Is(a, 5) != (isNormal && value(c).Sign() != 0) {
				t.Error("a C of", c)
			}
		}
		a := good()
		if a.K = c; aff.Is(a, 5) != isNormal {
			t.Error("a K of", c)
		}
	}
}

// P8.1: sums of terms that rise.
func TestAddByHand(t *testing.T) {
	for _, x := range []struct{ a, b, want []api.Term }{
		{nil, nil, nil}, {nil, []api.Term{}, nil}, {row(0, 1), nil, row(0, 1)}, {row(3, -2), nil, row(3, -2)},
		{row(0, 1), row(0, 2), row(0, 3)}, {row(5, 1), row(5, 2), row(5, 3)}, {row(0, 1), row(1, 2), row(0, 1, 1, 2)}, {row(0, 1, 2, 3), row(1, 2, 3, 4), row(0, 1, 1, 2, 2, 3, 3, 4)},
		{row(0, 1, 1, 2), row(2, 3, 3, 4), row(0, 1, 1, 2, 2, 3, 3, 4)}, {row(0, 1, 3, 4), row(1, 2, 2, 3), row(0, 1, 1, 2, 2, 3, 3, 4)},
		{row(0, 1, 1, 2), row(1, 3, 2, 4), row(0, 1, 1, 5, 2, 4)}, {row(0, 1, 2, 2), row(0, 3, 1, 5, 2, 4), row(0, 4, 1, 5, 2, 6)}, {row(1, 1), row(0, 1, 1, 1, 2, 1), row(0, 1, 1, 2, 2, 1)},
		{row(0, 1), row(0, -1), nil}, {row(0, 1, 1, 1), row(0, -1, 1, 1), row(1, 2)}, {row(0, 1, 1, 1), row(0, 1, 1, -1), row(0, 2)}, {row(0, 1, 1, 2, 2, 3), row(1, -2), row(0, 1, 2, 3)},
		{row(0, 1, 1, 2, 2, 3), row(0, -1, 1, -2, 2, -3), nil}, {row(0, 0), nil, nil}, {row(0, 0), row(0, 0), nil}, {row(0, 0, 1, 1), row(0, 2, 1, 0), row(0, 2, 1, 1)}, {row(0, 1, 1, 0, 2, 1), row(3, 0), row(0, 1, 2, 1)},
		{row(0, 0, 1, 0), row(2, 0, 3, 0), nil}, {row(2, 0), row(0, 1, 3, 1), row(0, 1, 3, 1)}, {row(9, 1), row(1<<40, 2), row(9, 1, 1<<40, 2)},
		{[]api.Term{term(0, small(1, 2))}, []api.Term{term(0, small(1, 3))}, []api.Term{term(0, small(5, 6))}},
		{[]api.Term{term(0, small(6, 4))}, nil, []api.Term{term(0, small(3, 2))}}, {[]api.Term{term(0, small(6, 4)), term(1, small(9, 0))}, row(2, 1), []api.Term{term(0, small(3, 2)), term(2, whole(1))}},
		{[]api.Term{term(1, small(-6, 4)), term(2, small(4, 2))}, []api.Term{term(1, small(6, 4)), term(3, small(-2, 2))}, row(2, 2, 3, -1)},
		{[]api.Term{term(0, small(5, 0)), term(1, api.Rat{}), term(2, ratOf(true, []uint32{0}, []uint32{3}))}, row(1, 4), row(1, 4)},
	} {
		for _, k := range [][3]api.Rat{{whole(0), whole(0), whole(0)}, {small(1, 2), small(1, 3), small(5, 6)}, {small(6, 4), small(-3, 2), whole(0)}, {{}, small(4, 2), whole(2)}, {small(-7, 0), {}, whole(0)}} {
			expectSum(t, aff.Add(con(1, k[0], x.a...), con(3, k[1], x.b...)), con(1, k[2], x.want...), "Add", x.a, x.b, k)
			expectSum(t, aff.Add(con(3, k[1], x.b...), con(1, k[0], x.a...)), con(3, k[2], x.want...), "Add", x.b, x.a, k)
		}
	}
}

// P8.1: a sum has the first one's Strength, whatever that is.
func TestStrengthOfSums(t *testing.T) {
	for _, a := range []int{0, 1, 2, 3, 4, 5, -1, math.MinInt, math.MaxInt} {
		for _, b := range []int{0, 1, 2, 3, 4, 5, -1, math.MinInt, math.MaxInt} {
			expectSum(t, aff.Add(con(a, whole(1), row(0, 1)...), con(b, whole(2), row(0, 2, 1, 1)...)), con(a, whole(3), row(0, 3, 1, 1)...), "Add")
			expectSum(t, aff.Add(con(a, whole(1)), con(b, whole(2))), con(a, whole(3)), "Add")
		}
		for _, by := range []int{-2, 0, 1} {
			expectSum(t, aff.Scale(con(a, whole(1)), whole(by)), con(a, whole(by)), "Scale", by)
		}
	}
}

// P8.1
func TestScaleByHand(t *testing.T) {
	a := con(2, small(1, 2), term(0, whole(1)), term(2, small(-2, 3)), term(7, whole(6)))
	for _, x := range []struct{ by, k, c0, c2, c7 api.Rat }{
		{whole(1), small(1, 2), whole(1), small(-2, 3), whole(6)}, {small(3, 3), small(1, 2), whole(1), small(-2, 3), whole(6)},
		{whole(-1), small(-1, 2), whole(-1), small(2, 3), whole(-6)}, {small(-4, 4), small(-1, 2), whole(-1), small(2, 3), whole(-6)},
		{whole(2), whole(1), whole(2), small(-4, 3), whole(12)}, {small(1, 2), small(1, 4), small(1, 2), small(-1, 3), whole(3)},
		{small(-6, 4), small(-3, 4), small(-3, 2), whole(1), whole(-9)}, {ratOf(false, []uint32{0, 1, 0}, []uint32{0, 2}), small(1, 4), small(1, 2), small(-1, 3), whole(3)},
	} {
		want := con(2, x.k, term(0, x.c0), term(2, x.c2), term(7, x.c7))
		expectSum(t, aff.Scale(a, x.by), want, "Scale", x.by)
	}
	for _, by := range rough() {
		if value(by).Sign() == 0 {
			expectSum(t, aff.Scale(a, by), con(2, whole(0)), "Scale", by)
			expectSum(t, aff.Scale(con(4, small(5, 5)), by), con(4, whole(0)), "Scale", by)
		}
		expectSum(t, aff.Scale(con(3, by), whole(1)), con(3, normal(value(by))), "Scale of a K of", by)
		expectSum(t, aff.Scale(con(3, whole(0)), by), con(3, whole(0)), "Scale of 0 by", by)
	}
	uneven := con(0, small(4, 2), term(0, small(6, 4)), term(1, whole(0)), term(2, small(5, 0)), term(3, small(-2, 2)))
	expectSum(t, aff.Scale(uneven, whole(1)), con(0, whole(2), term(0, small(3, 2)), term(3, whole(-1))), "Scale")
	expectSum(t, aff.Scale(uneven, small(-2, 6)), con(0, small(-2, 3), term(0, small(-1, 2)), term(3, small(1, 3))), "Scale")
	expectSum(t, aff.Scale(con(0, whole(1), row(0, 0)...), whole(5)), con(0, whole(5)), "Scale")
}

// P8.1
func TestAtByHand(t *testing.T) {
	a := con(1, small(1, 2), term(0, whole(2)), term(1, small(-1, 3)), term(3, whole(5)))
	two, three, seven := whole(2), whole(3), whole(7)
	for _, x := range []struct {
		val  []api.Rat
		want api.Rat
	}{
		{nil, small(1, 2)}, {[]api.Rat{}, small(1, 2)}, {[]api.Rat{two}, small(9, 2)}, {[]api.Rat{two, three}, small(7, 2)}, {[]api.Rat{two, three, seven}, small(7, 2)},
		{[]api.Rat{two, three, seven, small(1, 10)}, whole(4)}, {[]api.Rat{two, three, {}, small(1, 10)}, whole(4)}, {[]api.Rat{two, three, seven, small(1, 10), seven, seven}, whole(4)},
		{[]api.Rat{whole(0), whole(0), seven, whole(0)}, small(1, 2)}, {[]api.Rat{{}, {}, {}, {}}, small(1, 2)}, {[]api.Rat{small(4, 2), small(9, 3), small(1, 0), small(10, 100)}, whole(4)},
		{[]api.Rat{small(2, 0), three}, small(-1, 2)}, {[]api.Rat{small(-1, 4), {}, {}, {}}, whole(0)}, {[]api.Rat{small(-1, 2), whole(6)}, small(-5, 2)},
	} {
		expectNumber(t, aff.At(a, x.val), x.want, "At", x.val)
	}
	for _, k := range rough() {
		expectNumber(t, aff.At(con(0, k), []api.Rat{two}), normal(value(k)), "At of a K alone", k)
		expectNumber(t, aff.At(con(0, small(2, 4), term(0, k)), []api.Rat{whole(1)}), normal(lineOf(con(0, small(1, 2), term(0, k))).at([]api.Rat{whole(1)})), "At of a C", k)
		expectNumber(t, aff.At(con(0, whole(0), row(0, 1)...), []api.Rat{k}), normal(value(k)), "At of a value", k)
		for _, strength := range []int{-1, 0, 4, 5} {
			expectNumber(t, aff.At(con(strength, k, row(0, 2)...), []api.Rat{whole(3)}), normal(lineOf(con(0, k, row(0, 2)...)).at([]api.Rat{whole(3)})), "At", k)
		}
	}
}

// P8.1, W1: a variable without a value is 0, wherever it stands.
func TestAtOfVariablesWithoutValues(t *testing.T) {
	val := []api.Rat{whole(3), whole(5)}
	for _, v := range []int{-1, -2, -3, -64, math.MinInt, 2, 3, 64, math.MaxInt, 1 << 32, -1 << 32} {
		for _, list := range [][]api.Rat{nil, {}, val, append(slices.Clone(val), whole(9))[:2]} {
			expectNumber(t, aff.At(con(0, whole(7), row(v, 2)...), list), whole(7), "At", v)
		}
		expectNumber(t, aff.At(con(0, whole(7), row(v, 2, 1, 1)...), val), whole(12), "At", v)
		expectNumber(t, aff.At(con(0, whole(7), row(0, 1, v, 2)...), val), whole(10), "At", v)
	}
}

// P8.1: terms in any order, and of one variable twice, come together.
func TestAtOfTermsThatDoNotRise(t *testing.T) {
	val := []api.Rat{whole(3), whole(5), small(1, 2)}
	expectNumber(t, aff.At(con(0, whole(1), row(1, 2, 0, 4)...), val), whole(23), "At")
	expectNumber(t, aff.At(con(0, whole(1), row(2, 2, 2, 2, 0, -1)...), val), whole(0), "At")
}

// apart are sums no two of which are one.
func apart() []api.Con {
	list := []api.Con{con(1, whole(0)), con(2, whole(0)), con(-1, whole(0)), con(0, small(1, 2)), con(0, small(-1, 2)), con(0, whole(2)), con(0, ratOf(false, []uint32{0, 1}, []uint32{1}))}
	rows := [][]api.Term{
		nil, row(0, 1), row(0, -1), row(0, 2), {term(0, small(1, 2))}, row(1, 1), row(-1, 1), row(1<<32, 1), row(0, 0), row(1, 0),
		row(0, 1, 1, 1), row(0, 1, 2, 1), row(0, 1, 1, 2), row(0, 2, 1, 1), row(1, 1, 0, 1), row(0, 1, 0, 1), row(0, 1, 1, 1, 2, 1), row(1, 1, 2, 1),
	}
	for _, terms := range rows {
		list = append(list, con(0, whole(0), terms...))
	}
	return append(list, con(4, whole(0), row(0, 1)...), con(0, whole(1), row(0, 1)...), con(3, whole(1), row(0, 1)...))
}

// otherwise are all ways to write one number that the tests know.
func otherwise(a api.Rat) []api.Rat {
	list := []api.Rat{a, normal(value(a)), ratOf(a.Neg, append(slices.Clone(a.N), 0), a.D), ratOf(a.Neg, a.N, append(slices.Clone(a.D), 0, 0))}
	n, d := natural(a.N), natural(a.D)
	seven := natural([]uint32{0, 7})
	list = append(list, ratOf(a.Neg, limbs(n.Mul(n, seven)), limbs(d.Mul(d, seven))))
	if value(a).Sign() == 0 {
		list = append(list, api.Rat{}, small(5, 0), small(0, 5), ratOf(true, []uint32{0}, []uint32{1}), api.Rat{Neg: true})
	}
	return list
}

// P8.1
func TestSame(t *testing.T) {
	for i, a := range apart() {
		for j, b := range apart() {
			if aff.Same(a, b) != (i == j) {
				t.Error("Same", a, b)
			}
		}
	}
	empty := con(0, whole(2))
	empty.Terms = []api.Term{}
	if !aff.Same(empty, con(0, whole(2))) || !aff.Same(con(0, whole(2)), empty) || !aff.Same(api.Con{}, con(0, whole(0))) {
		t.Error("nil and empty are not one")
	}
	for _, was := range append(apart(), con(0, whole(0), term(0, small(6, 4)), term(1, api.Rat{}), term(2, small(-9, 3)))) {
		for _, k := range otherwise(was.K) {
			if a := con(was.Strength, k, was.Terms...); !aff.Same(a, was) || !aff.Same(was, a) {
				t.Error("Same of numbers that are not written alike", a, was)
			}
		}
		for place, x := range was.Terms {
			for _, c := range otherwise(x.C) {
				a := con(was.Strength, was.K, slices.Clone(was.Terms)...)
				a.Terms[place].C = c
				if !aff.Same(a, was) || !aff.Same(was, a) {
					t.Error("Same of numbers that are not written alike", a, was)
				}
			}
		}
	}
}

// randomSum has terms that rise; its numbers are rough in part.
func randomSum(r *rand.Rand) api.Con {
	a := con(r.Intn(7)-1, roughOne(r))
	for place := range 1 + r.Intn(9) {
		if c := small(r.Intn(9)-4, uint32(1+r.Intn(3))); r.Intn(2) == 0 {
			a.Terms = append(a.Terms, term(place, c))
		} else if r.Intn(3) == 0 {
			a.Terms = append(a.Terms, term(place, roughOne(r)))
		}
	}
	return a
}

// P8.1
func TestRandomSums(t *testing.T) {
	r := rand.New(rand.NewSource(81))
	for range 20000 {
		a, b, by := randomSum(r), randomSum(r), roughOne(r)
		l, m := lineOf(a), lineOf(b)
		sum, scaled := aff.Add(a, b), aff.Scale(a, by)
		expectSum(t, sum, l.plus(m).con(a.Strength), "Add", a, b)
		expectSum(t, scaled, l.times(value(by)).con(a.Strength), "Scale", a, by)
		hasStrength := 0 <= a.Strength && a.Strength <= 4
		if aff.Is(sum, 9) != hasStrength || aff.Is(scaled, 9) != hasStrength {
			t.Fatal("Add or Scale answers what may not be", a, b, by)
		}
		val := make([]api.Rat, r.Intn(12))
		for i := range val {
			val[i] = roughOne(r)
		}
		expectNumber(t, aff.At(a, val), normal(l.at(val)), "At", a, val)
		isSame := a.Strength == b.Strength && alikeSums(l.con(0), m.con(0))
		if aff.Same(sum, scaled) != alikeSums(sum, scaled) || aff.Same(aff.Scale(a, whole(1)), aff.Scale(b, whole(1))) != isSame {
			t.Fatal("Same", a, b)
		}
	}
}

// W1: sums of terms that do not rise, and of many, come to an end.
func TestSumsOfAnyTerms(t *testing.T) {
	r := rand.New(rand.NewSource(82))
	places := []int{-1, 0, 1, 2, math.MinInt, math.MaxInt, 1 << 32}
	for range 2000 {
		a, b := con(r.Intn(9)-2, roughOne(r)), con(0, roughOne(r))
		for range r.Intn(6) {
			a.Terms = append(a.Terms, term(places[r.Intn(len(places))], roughOne(r)))
			b.Terms = append(b.Terms, term(places[r.Intn(len(places))], roughOne(r)))
		}
		aff.Add(a, b)
		aff.Scale(a, roughOne(r))
		if aff.Same(a, b) != aff.Same(b, a) || !aff.Same(a, a) {
			t.Fatal("Same", a, b)
		}
		expectNumber(t, aff.At(a, rough()), normal(lineOf(a).at(rough())), "At", a)
	}
	great := con(0, whole(1))
	for place := range 1 << 14 {
		great.Terms = append(great.Terms, term(place, whole(1)))
	}
	twice := aff.Add(great, great)
	if !aff.Is(twice, 1<<14) || aff.Is(twice, 1<<14-1) || !aff.Same(twice, aff.Scale(great, whole(2))) || len(aff.Add(great, aff.Scale(great, whole(-1))).Terms) != 0 {
		t.Error("sums of many terms")
	}
	expectNumber(t, aff.At(twice, slices.Repeat([]api.Rat{small(1, 2)}, 1<<14)), whole(1<<14+2), "At of many terms")
}

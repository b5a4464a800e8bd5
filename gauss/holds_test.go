package gauss_test

import (
	"math/big"
	"math/rand"
	"slices"
	"testing"

	"pantograph/aff"
	"pantograph/api"
	"pantograph/gauss"
	"pantograph/rat"
)

// saidAt is what a sum of any terms is at values; a variable without one is 0.
func saidAt(c api.Con, val []api.Rat) *big.Rat {
	all := value(c.K)
	for _, t := range c.Terms {
		if 0 <= t.Var && t.Var < len(val) {
			all.Add(all, new(big.Rat).Mul(value(t.C), value(val[t.Var])))
		}
	}
	return all
}

func expectHolds(t *testing.T, c api.Con, val []api.Rat, want bool) {
	t.Helper()
	if gauss.Holds(c, val) != want {
		t.Errorf("Holds is not %v: %v, at %v", want, c, val)
	}
}

// P10.1
func TestHolds(t *testing.T) {
	for _, x := range []struct {
		sum  string
		val  []api.Rat
		want bool
	}{
		{"0", nil, true}, {"0", wholes(1, 2), true}, {"1", nil, false}, {"-1/3", wholes(1, 2), false},
		{"a", nil, true}, {"a", []api.Rat{}, true}, {"a", wholes(0), true}, {"a", wholes(1), false}, {"a", wholes(0, 5), true}, {"a - 1", nil, false}, {"a - 1", wholes(1), true}, {"a + 1", wholes(-1), true}, {"a - 1", wholes(-1), false},
		{"a + b - 3", wholes(2, 1), true}, {"a + b - 3", wholes(1, 2), true}, {"a + b - 3", wholes(2, 2), false}, {"a + b - 3", wholes(3), true}, {"a + b - 3", wholes(2), false}, {"a + b - 3", nil, false}, {"a + b - 3", wholes(2, 1, 9, 9), true}, {"a + b - 3", wholes(3, 1, -1), false},
		{"a - b - 1", wholes(2, 1), true}, {"a - b - 1", wholes(1, 2), false}, {"b - 2", wholes(2), false}, {"b - 2", wholes(0, 2), true}, {"c", wholes(1, 2), true}, {"c - a", wholes(1, 2, 1), true}, {"c - a", wholes(1, 2), false},
		{"a / 3 + b / 6 - 1/2", wholes(1, 1), true}, {"a / 3 + b / 6 - 1/2", []api.Rat{small(3, 2)}, true}, {"a / 3 - 1/3", wholes(1), true}, {"3 * a - 1", []api.Rat{small(1, 3)}, true}, {"3 * a - 1", []api.Rat{small(3333333, 10000000)}, false},
		{"a + b", []api.Rat{small(2, 4), small(-3, 6)}, true}, {"a", []api.Rat{small(5, 0)}, true}, {"a + 1", []api.Rat{{}}, false},
	} {
		expectHolds(t, sum(x.sum), x.val, x.want)
	}
}

// P10.1: of any Strength, and of a variable wherever it stands.
func TestHoldsOfAnySum(t *testing.T) {
	for _, strength := range []int{0, 1, 2, 3, 4, 5, -1, lowest, highest} {
		expectHolds(t, con(strength, whole(-2), row(0, 1)...), wholes(2), true)
		expectHolds(t, con(strength, whole(-2), row(0, 1)...), wholes(1), false)
	}
	for _, v := range []int{64, 65, 1000} {
		val := make([]api.Rat, v+1)
		expectHolds(t, con(0, whole(-2), row(v, 1)...), val, false)
		val[v] = whole(2)
		expectHolds(t, con(0, whole(-2), row(v, 1)...), val, true)
		expectHolds(t, con(0, whole(-2), row(v, 1)...), val[:v], false)
	}
	for _, v := range []int{-1, -2, lowest, highest, 1 << 32} {
		expectHolds(t, con(0, whole(0), row(v, 1)...), wholes(2, 2), true)
		expectHolds(t, con(0, whole(-2), row(v, 1)...), wholes(2, 2), false)
		expectHolds(t, con(0, whole(-2), row(v, 1, 0, 1)...), wholes(2, 2), true)
	}
	expectHolds(t, con(0, whole(-8), row(1, 1, 0, 2)...), wholes(3, 2), true)
	expectHolds(t, con(0, whole(-6), row(0, 1, 0, 2)...), wholes(2), true)
	expectHolds(t, con(0, whole(-2), row(0, 1, 0, 2)...), wholes(2), false)
}

// P10.1: numbers are exact, however long.
func TestHoldsOfLongNumbers(t *testing.T) {
	r := rand.New(rand.NewSource(1))
	for range 200 {
		c, x := long(r, r.Intn(20), r.Intn(20)), long(r, r.Intn(20), r.Intn(20))
		k := new(big.Rat).Mul(value(c), value(x))
		least := new(big.Rat).SetFrac(big.NewInt(1), new(big.Int).Lsh(big.NewInt(1), 2000))
		expectHolds(t, con(0, normal(new(big.Rat).Neg(k)), term(0, c)), []api.Rat{x}, true)
		expectHolds(t, con(0, normal(k), term(0, c)), []api.Rat{x}, false)
		expectHolds(t, con(0, normal(new(big.Rat).Sub(least, k)), term(0, c)), []api.Rat{x}, false)
	}
}

// P10.1: it is 8's At of whatever is handed in.
func TestHoldsIsAt(t *testing.T) {
	r := rand.New(rand.NewSource(2))
	numbers := slices.Concat(roughRats(), wholes(0, 1, -1, 2, 3), []api.Rat{small(1, 2), small(-3, 2)})
	number := func() api.Rat { return numbers[r.Intn(len(numbers))] }
	list := slices.Concat(badSums(), goodSums())
	held, failed := 0, 0
	for i := range 4000 {
		var c api.Con
		if i%2 == 0 {
			c = list[r.Intn(len(list))]
		} else {
			c = con(r.Intn(7)-1, number())
			for range r.Intn(4) {
				c.Terms = append(c.Terms, term(r.Intn(5)-1, number()))
			}
		}
		var val []api.Rat
		for range r.Intn(6) {
			val = append(val, number())
		}
		if len(c.Terms) > 0 && len(val) > 0 && r.Intn(2) == 0 {
			c.K = normal(new(big.Rat).Sub(value(c.K), saidAt(c, val)))
		}
		want := saidAt(c, val).Sign() == 0
		expectHolds(t, c, val, want)
		if rat.Zero(aff.At(c, val)) != want {
			t.Fatal("At is something else:", c, val)
		}
		if want {
			held++
		} else {
			failed++
		}
	}
	if held < 1000 || failed < 1000 {
		t.Error("too few of a kind:", held, failed)
	}
}

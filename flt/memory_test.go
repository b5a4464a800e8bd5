package flt_test

import (
	"math"
	"slices"
	"testing"

	"pantograph/api"
	"pantograph/flt"
)

const spare = 0xa5a5a5a5

// roomy is a copy of a row with room behind its end, which has marks in it.
func roomy(a []uint32) []uint32 {
	return slices.Concat(a, []uint32{spare, spare, spare, spare})[:len(a)]
}

func whole(a []uint32) []uint32 { return a[:cap(a)] }

// overwrite spoils a row with the spare room behind its end.
func overwrite(a []uint32) {
	for i := range whole(a) {
		whole(a)[i] ^= 0x5a5a5a5a
	}
}

// P4.3
func TestToNeitherChangesNorKeeps(t *testing.T) {
	numbers := append(append(noughts(), rough()...),
		small(1, 3), small(-6, 4), normal(worth(leastBits)), normal(worth(greatestPlainBits)), normal(worth(leastLeadingBits)), normal(worth(greatestBits)), normal(worth(infinityBits)),
		normal(power(5000)), normal(power(-5000)), ratOf(true, []uint32{0, 0, 6, 0}, []uint32{0, 3, 0}))
	for _, handed := range numbers {
		a := ratOf(handed.Neg, roomy(handed.N), roomy(handed.D))
		n, d := slices.Clone(whole(a.N)), slices.Clone(whole(a.D))
		first := flt.To(a)
		if !slices.Equal(whole(a.N), n) || !slices.Equal(whole(a.D), d) {
			t.Fatal("To changes what is handed in:", handed)
		}
		overwrite(a.N)
		overwrite(a.D)
		expectBits(t, flt.To(handed), math.Float64bits(first), "To for the second time", handed)
	}
}

// P4.3: one row may be handed in as N and D.
func TestToOfRowsThatShareMemory(t *testing.T) {
	for _, n := range rows() {
		a := roomy(n)
		was := slices.Clone(whole(a))
		expectBits(t, flt.To(ratOf(true, a, a)), math.Float64bits(flt.To(ratOf(true, slices.Clone(n), slices.Clone(n)))), "To of rows that are one", n)
		if !slices.Equal(whole(a), was) {
			t.Fatal("To changes rows that are one", n)
		}
	}
}

// P4.3: no row of an answer shares memory with another one.
func TestFromAnswersNewMemory(t *testing.T) {
	list := []float64{0, math.Copysign(0, -1), 1, -1, 0.5, 3, 0.1, 1 << 40, 1e300, -1e-300, math.Inf(1), math.Inf(-1), math.NaN()}
	for _, bits := range edges() {
		list = append(list, math.Float64frombits(bits))
	}
	for _, f := range list {
		first, _ := flt.From(f)
		second, _ := flt.From(f)
		want := ratOf(first.Neg, slices.Clone(first.N), slices.Clone(first.D))
		if !alike(first, second) {
			t.Fatal("From answers something else the second time:", f, first, second)
		}
		answers := [][]uint32{first.N, first.D, second.N, second.D}
		for i, spoilt := range answers {
			others := copies(answers)
			overwrite(spoilt)
			others[i] = slices.Clone(whole(spoilt))
			if !slices.EqualFunc(others, copies(answers), slices.Equal) {
				t.Fatal("From answers rows that share memory:", f)
			}
		}
		if third, _ := flt.From(f); !alike(third, want) {
			t.Fatal("From has kept memory:", f, third)
		}
	}
}

// copies are those of some rows, with their spare room.
func copies(all [][]uint32) [][]uint32 {
	var list [][]uint32
	for _, a := range all {
		list = append(list, slices.Clone(whole(a)))
	}
	return list
}

// W7: an answer stays, whatever is called later.
func TestAnswersStay(t *testing.T) {
	var answers, were []api.Rat
	for _, bits := range edges() {
		a, _ := flt.From(math.Float64frombits(bits))
		answers = append(answers, a)
		were = append(were, ratOf(a.Neg, slices.Clone(a.N), slices.Clone(a.D)))
		flt.To(a)
	}
	if !slices.EqualFunc(answers, were, alike) {
		t.Error("an answer of From changes later")
	}
}

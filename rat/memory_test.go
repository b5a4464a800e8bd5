package rat_test

import (
	"slices"
	"testing"

	"pantograph/api"
	"pantograph/rat"
)

// call is a call of the package, and the number that it answers, if it does.
type call struct {
	name string
	do   func(a, b api.Rat) api.Rat
}

func calls() []call {
	return []call{
		{"Is", func(a, b api.Rat) api.Rat { rat.Is(a); return api.Rat{} }},
		{"Norm", func(a, b api.Rat) api.Rat { return rat.Norm(a) }},
		{"Int", func(a, b api.Rat) api.Rat { return rat.Int(1<<40 + 5) }},
		{"Int of 0", func(a, b api.Rat) api.Rat { return rat.Int(0) }},
		{"Of", func(a, b api.Rat) api.Rat { return rat.Of(a.Neg, a.N, b.N) }},
		{"Add", func(a, b api.Rat) api.Rat { return rat.Add(a, b) }},
		{"Sub", func(a, b api.Rat) api.Rat { return rat.Sub(a, b) }},
		{"Mul", func(a, b api.Rat) api.Rat { return rat.Mul(a, b) }},
		{"Div", func(a, b api.Rat) api.Rat { q, _ := rat.Div(a, b); return q }},
		{"Neg", func(a, b api.Rat) api.Rat { return rat.Neg(a) }},
		{"Cmp", func(a, b api.Rat) api.Rat { rat.Cmp(a, b); return api.Rat{} }},
		{"Zero", func(a, b api.Rat) api.Rat { rat.Zero(a); return api.Rat{} }},
		{"Same", func(a, b api.Rat) api.Rat { rat.Same(a, b); return api.Rat{} }},
		{"Large", func(a, b api.Rat) api.Rat { rat.Large(a); return api.Rat{} }},
		{"Floor", func(a, b api.Rat) api.Rat { return rat.Floor(a) }},
	}
}

const spare = 0xa5a5a5a5

// roomy is a copy of a row with room behind its end, which has marks in it.
func roomy(a []uint32) []uint32 {
	return slices.Concat(a, []uint32{spare, spare, spare, spare})[:len(a)]
}

func roomyRat(a api.Rat) api.Rat { return ratOf(a.Neg, roomy(a.N), roomy(a.D)) }

// wholeRows are copies of the rows of some numbers, with their spare room.
func wholeRows(numbers ...api.Rat) [][]uint32 {
	var all [][]uint32
	for _, a := range numbers {
		all = append(all, slices.Clone(a.N[:cap(a.N)]), slices.Clone(a.D[:cap(a.D)]))
	}
	return all
}

func equalRows(a, b [][]uint32) bool {
	return slices.EqualFunc(a, b, func(x, y []uint32) bool { return slices.Equal(x, y) })
}

// overwrite spoils a row with the spare room behind its end.
func overwrite(a []uint32) {
	a = a[:cap(a)]
	for i := range a {
		a[i] ^= 0x5a5a5a5a
	}
}

func overwriteRat(a api.Rat) {
	overwrite(a.N)
	overwrite(a.D)
}

func checkMemory(t *testing.T, c call, handedA, handedB api.Rat) {
	t.Helper()
	a, b := roomyRat(handedA), roomyRat(handedB)
	was := wholeRows(a, b)
	first, second := c.do(a, b), c.do(a, b)
	if !equalRows(wholeRows(a, b), was) {
		t.Fatal(c.name, "changes what is handed in:", handedA, handedB)
	}
	if !alike(first, second) {
		t.Fatal(c.name, "answers something else the second time:", first, second)
	}
	answers := wholeRows(first, second)
	overwriteRat(a)
	overwriteRat(b)
	if !equalRows(wholeRows(first, second), answers) {
		t.Fatal(c.name, "answers memory that was handed in:", handedA, handedB)
	}
	spoilt := wholeRows(a, b)
	overwrite(first.N)
	if !equalRows(wholeRows(first, second)[1:], answers[1:]) {
		t.Fatal(c.name, "answers an N that shares memory:", handedA, handedB)
	}
	overwrite(first.D)
	if !equalRows(wholeRows(second), answers[2:]) || !equalRows(wholeRows(a, b), spoilt) {
		t.Fatal(c.name, "answers a D that shares memory:", handedA, handedB)
	}
	// What a call kept would come to light now: all of it is spoilt.
	if third := c.do(roomyRat(handedA), roomyRat(handedB)); !alike(third, second) {
		t.Fatal(c.name, "has kept memory:", handedA, handedB, third)
	}
}

// P2.3
func TestMemoryIsNeitherChangedNorKept(t *testing.T) {
	numbers := []api.Rat{
		{}, {Neg: true}, nought(), ratOf(true, []uint32{0}, []uint32{5}), small(5, 0), ratOf(true, []uint32{5, 6, 0}, []uint32{0, 0}),
		small(1, 1), small(-1, 1), small(7, 1), small(-7, 2), small(5, 6), small(6, 4), small(-4, 2),
		ratOf(false, []uint32{6, 0}, []uint32{4, 0, 0}), ratOf(true, []uint32{0, 1, 0}, []uint32{3, 0}),
		ratOf(false, []uint32{most, most}, []uint32{0, 1}), ratOf(true, []uint32{1, 2, 3, 0}, []uint32{1, 2, 3}),
		ratOf(false, full(20), row(19)), ratOf(true, row(20), full(20)), ratOf(false, times(full(17), 1000), times(row(17), 1000)),
	}
	for _, c := range calls() {
		for _, a := range numbers {
			for _, b := range numbers {
				checkMemory(t, c, a, b)
			}
		}
	}
}

// P2.3: one row may be handed in as N and D, and one number twice.
func TestRowsThatShareMemory(t *testing.T) {
	for _, n := range edges() {
		row := roomy(n)
		a := ratOf(false, row, row)
		for _, c := range calls() {
			apart := ratOf(false, slices.Clone(n), slices.Clone(n))
			want := c.do(apart, ratOf(false, slices.Clone(n), slices.Clone(n)))
			got := c.do(a, a)
			if !alike(got, want) {
				t.Fatal(c.name, "of rows that are one", n, got, want)
			}
			if !slices.Equal(row[:cap(row)][:len(n)+4], roomy(n)[:len(n)+4]) {
				t.Fatal(c.name, "changes rows that are one", n)
			}
			wantN := slices.Clone(got.N)
			if overwrite(got.D); !slices.Equal(got.N, wantN) {
				t.Fatal(c.name, "answers an N and a D that are one", n)
			}
		}
	}
}

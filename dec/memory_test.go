package dec_test

import (
	"slices"
	"testing"

	"pantograph/api"
	"pantograph/dec"
)

// answer is all that a call tells.
type answer struct {
	number api.Rat
	text   string
	ok     bool
}

func sameAnswer(a, b answer) bool {
	return alike(a.number, b.number) && a.text == b.text && a.ok == b.ok
}

type call struct {
	name string
	do   func(a api.Rat) answer
}

func calls() []call {
	list := []call{
		{"Print", func(a api.Rat) answer { return answer{text: dec.Print(a)} }},
		{"Exact", func(a api.Rat) answer { s, ok := dec.Exact(a); return answer{text: s, ok: ok} }},
	}
	for _, scale := range []int{-1, 0, 1, 2, 9, 10} {
		list = append(list,
			call{"Round", func(a api.Rat) answer { return answer{number: dec.Round(a, scale)} }},
			call{"Fixed", func(a api.Rat) answer { return answer{text: dec.Fixed(a, scale)} }})
	}
	for _, s := range []string{"12345678901234567890.25", "-7", "0", "1/123456789012345678901234567890", "x"} {
		list = append(list, call{"Parse " + s, func(a api.Rat) answer { n, _ := dec.Parse(s); return answer{number: n} }})
	}
	return list
}

const spare = 0xa5a5a5a5

// roomy is a copy of a row with room behind its end, which has marks in it.
func roomy(a []uint32) []uint32 {
	return slices.Concat(a, []uint32{spare, spare, spare, spare})[:len(a)]
}

func roomyRat(a api.Rat) api.Rat { return ratOf(a.Neg, roomy(a.N), roomy(a.D)) }

// wholeRows are copies of the rows of some numbers, with their spare room.
func wholeRows(numbers ...api.Rat) [][]uint32 {
	var all [][]uint32
	for _, a := range numbers {
		all = append(all, slices.Clone(a.N[:cap(a.N)]), slices.Clone(a.D[:cap(a.D)]))
	}
	return all
}

func equalRows(a, b [][]uint32) bool {
	return slices.EqualFunc(a, b, func(x, y []uint32) bool { return slices.Equal(x, y) })
}

// overwrite spoils a row with the spare room behind its end.
func overwrite(a []uint32) {
	a = a[:cap(a)]
	for i := range a {
		a[i] ^= 0x5a5a5a5a
	}
}

func checkMemory(t *testing.T, c call, handed api.Rat) {
	t.Helper()
	a := roomyRat(handed)
	was := wholeRows(a)
	first, second := c.do(a), c.do(a)
	if !equalRows(wholeRows(a), was) {
		t.Fatal(c.name, "changes what is handed in:", handed)
	}
	if !sameAnswer(first, second) {
		t.Fatal(c.name, "answers something else the second time:", first, second)
	}
	answers := wholeRows(first.number, second.number)
	texts := []string{first.text, second.text}
	overwrite(a.N)
	overwrite(a.D)
	if !equalRows(wholeRows(first.number, second.number), answers) || !slices.Equal(texts, []string{second.text, first.text}) {
		t.Fatal(c.name, "answers memory that was handed in:", handed)
	}
	spoilt := wholeRows(a)
	overwrite(first.number.N)
	if !equalRows(wholeRows(first.number, second.number)[1:], answers[1:]) {
		t.Fatal(c.name, "answers an N that shares memory:", handed)
	}
	overwrite(first.number.D)
	if !equalRows(wholeRows(second.number), answers[2:]) || !equalRows(wholeRows(a), spoilt) {
		t.Fatal(c.name, "answers a D that shares memory:", handed)
	}
	// What a call kept would come to light now: all of it is spoilt.
	if third := c.do(roomyRat(handed)); !sameAnswer(third, second) {
		t.Fatal(c.name, "has kept memory:", handed, third)
	}
}

// P3.3
func TestMemoryIsNeitherChangedNorKept(t *testing.T) {
	numbers := append(noughts(),
		small(1, 1), small(-1, 1), small(7, 1), small(5, 2), small(-7, 2), small(-1, 8), small(5, 6), small(6, 4), small(-4, 2),
		ratOf(false, []uint32{6, 0}, []uint32{4, 0, 0}), ratOf(true, []uint32{0, 1, 0}, []uint32{3, 0}), ratOf(true, []uint32{5}, []uint32{1000000000}),
		ratOf(false, []uint32{most, most}, []uint32{0, 1}), ratOf(true, []uint32{1, 2, 3, 0}, []uint32{1, 2, 3}), ratOf(false, []uint32{1, 2, 3}, []uint32{1}),
	)
	for _, c := range calls() {
		for _, a := range numbers {
			checkMemory(t, c, a)
		}
	}
}

// P3.3: one row may be handed in as N and D.
func TestRowsThatShareMemory(t *testing.T) {
	for _, n := range rows() {
		row := roomy(n)
		for _, c := range calls() {
			got, want := c.do(ratOf(true, row, row)), c.do(ratOf(true, slices.Clone(n), slices.Clone(n)))
			if !sameAnswer(got, want) {
				t.Fatal(c.name, "of rows that are one", n, got, want)
			}
			if !slices.Equal(row[:cap(row)][:len(n)+4], roomy(n)[:len(n)+4]) {
				t.Fatal(c.name, "changes rows that are one", n)
			}
		}
	}
}

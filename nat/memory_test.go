package nat_test

import (
	"fmt"
	"math/big"
	"slices"
	"testing"

	"pantograph/nat"
)

// call is a call of the package, and all lists that it answers.
type call struct {
	name string
	do   func(a, b []uint32) [][]uint32
}

func one(a []uint32) [][]uint32 { return [][]uint32{a} }

func calls() []call {
	list := []call{
		{"Is", func(a, b []uint32) [][]uint32 { nat.Is(a); return nil }},
		{"Trim", func(a, b []uint32) [][]uint32 { return one(nat.Trim(a)) }},
		{"Of", func(a, b []uint32) [][]uint32 { return one(nat.Of(1<<40 + 5)) }},
		{"Of small", func(a, b []uint32) [][]uint32 { return one(nat.Of(5)) }},
		{"To", func(a, b []uint32) [][]uint32 { nat.To(a); return nil }},
		{"Cmp", func(a, b []uint32) [][]uint32 { nat.Cmp(a, b); return nil }},
		{"Add", func(a, b []uint32) [][]uint32 { return one(nat.Add(a, b)) }},
		{"Sub", func(a, b []uint32) [][]uint32 { d, _ := nat.Sub(a, b); return one(d) }},
		{"Mul", func(a, b []uint32) [][]uint32 { return one(nat.Mul(a, b)) }},
		{"DivMod", func(a, b []uint32) [][]uint32 { q, r, _ := nat.DivMod(a, b); return [][]uint32{q, r} }},
		{"Gcd", func(a, b []uint32) [][]uint32 { return one(nat.Gcd(a, b)) }},
		{"Bits", func(a, b []uint32) [][]uint32 { nat.Bits(a); return nil }},
		{"Parse", func(a, b []uint32) [][]uint32 { n, _ := nat.Parse("123456789012345678901234567890"); return one(n) }},
		{"Print", func(a, b []uint32) [][]uint32 { nat.Print(a); return nil }},
	}
	for _, n := range []int{0, 1, 32, 40, 5000, -1, -32, -40, -5000} {
		list = append(list, call{fmt.Sprint("Shift ", n), func(a, b []uint32) [][]uint32 { return one(nat.Shift(a, n)) }})
	}
	return list
}

const spare = 0xa5a5a5a5

// roomy is a copy of a row with room behind its end, which has marks in it.
func roomy(a []uint32) []uint32 {
	full := append(slices.Clone(a), spare, spare, spare, spare)
	return full[:len(a)]
}

func copies(lists [][]uint32) [][]uint32 {
	var all [][]uint32
	for _, a := range lists {
		all = append(all, slices.Clone(a))
	}
	return all
}

func unchanged(lists, was [][]uint32) bool {
	return slices.EqualFunc(lists, was, func(a, b []uint32) bool { return slices.Equal(a, b) })
}

// overwrite spoils a row with the spare room behind its end.
func overwrite(a []uint32) {
	a = a[:cap(a)]
	for i := range a {
		a[i] ^= 0x5a5a5a5a
	}
}

func whole(a []uint32) []uint32 { return a[:cap(a)] }

func checkMemory(t *testing.T, c call, a, b []uint32) {
	t.Helper()
	wasA, wasB := slices.Clone(whole(a)), slices.Clone(whole(b))
	first, second := c.do(a, b), c.do(a, b)
	if !slices.Equal(whole(a), wasA) || !slices.Equal(whole(b), wasB) {
		t.Fatal(c.name, "changes what is handed in:", wasA, wasB)
	}
	answers := append(slices.Clone(first), second...)
	was := copies(answers)
	if !unchanged(first, was[len(first):]) {
		t.Fatal(c.name, "answers something else the second time:", first, second)
	}
	overwrite(a)
	overwrite(b)
	if !unchanged(answers, was) {
		t.Fatal(c.name, "answers memory that was handed in:", wasA, wasB)
	}
	spoiltA, spoiltB := slices.Clone(whole(a)), slices.Clone(whole(b))
	for i, answer := range answers {
		overwrite(answer)
		if !unchanged(answers[i+1:], was[i+1:]) {
			t.Fatal(c.name, "answers lists that share memory:", wasA, wasB)
		}
	}
	if !slices.Equal(whole(a), spoiltA) || !slices.Equal(whole(b), spoiltB) {
		t.Fatal(c.name, "answers room that was handed in:", wasA, wasB)
	}
	// What a call kept would come to light now: all of it is spoilt.
	copy(whole(a), wasA)
	copy(whole(b), wasB)
	if third := c.do(a, b); !unchanged(third, was[:len(third)]) {
		t.Fatal(c.name, "has kept memory:", wasA, wasB, third)
	}
}

// P1.4
func TestMemoryIsNeitherChangedNorKept(t *testing.T) {
	for _, c := range calls() {
		for _, a := range edges() {
			for _, b := range edges() {
				checkMemory(t, c, roomy(a), roomy(b))
			}
		}
	}
}

// P1.4: an answer's spare room is its own, too: what is written behind its
// end is nowhere to be seen.
func TestAnswersGrowOnTheirOwn(t *testing.T) {
	a, b := roomy([]uint32{5, 6, 7, 8, 0}), roomy([]uint32{9, 3, 0})
	q, r, _ := nat.DivMod(a, b)
	wasQ, wasR := slices.Clone(q), slices.Clone(r)
	_, _ = append(q, 1, 1, 1), append(r, 2, 2, 2)
	_, _ = append(nat.Trim(a), 3), append(nat.Shift(b, 0), 4)
	if !slices.Equal(q, wasQ) || !slices.Equal(r, wasR) {
		t.Error("what is answered shares room", q, r)
	}
	if !slices.Equal(whole(a)[:9], []uint32{5, 6, 7, 8, 0, spare, spare, spare, spare}) || !slices.Equal(whole(b)[:7], []uint32{9, 3, 0, spare, spare, spare, spare}) {
		t.Error("what is handed in was written to", a, b)
	}
}

// P1.4: the same row may be handed in twice, or as a part of the other.
func TestRowsThatShareMemory(t *testing.T) {
	for _, a := range edges() {
		n := value(a)
		twice := roomy(a)
		sum, product, common := nat.Add(twice, twice), nat.Mul(twice, twice), nat.Gcd(twice, twice)
		less, ok := nat.Sub(twice, twice)
		q, r, may := nat.DivMod(twice, twice)
		expect(t, sum, new(big.Int).Add(n, n), "Add to itself", a)
		expect(t, product, new(big.Int).Mul(n, n), "Mul by itself", a)
		expect(t, common, n, "Gcd with itself", a)
		if !ok || len(less) != 0 || nat.Cmp(twice, twice) != 0 {
			t.Error("Sub or Cmp of itself", a, less, ok)
		}
		if may != (n.Sign() > 0) || len(r) != 0 || may && !slices.Equal(q, []uint32{1}) {
			t.Error("DivMod by itself", a, q, r, may)
		}
		if !slices.Equal(whole(twice)[:len(a)+4], whole(roomy(a))[:len(a)+4]) {
			t.Error("what is handed in was changed", a)
		}
	}
	all := []uint32{1, 2, 3, 4, 0}
	q, r, ok := nat.DivMod(all, all[:2])
	if !ok || nat.Cmp(nat.Add(nat.Mul(q, all[:2]), r), all) != 0 || !slices.Equal(all, []uint32{1, 2, 3, 4, 0}) {
		t.Error("DivMod by a part of it", q, r, ok, all)
	}
}

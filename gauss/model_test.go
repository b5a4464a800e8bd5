package gauss_test

import (
	"math/big"
	"math/rand"
	"slices"
	"testing"

	"pantograph/api"
	"pantograph/gauss"
)

// line is a sum as a row of all its numbers, K behind those of the variables.
type line []*big.Rat

func isNormal(a api.Rat) bool { return alike(a, normal(value(a))) }

// mayBe tells whether a sum may be of n variables.
func mayBe(c api.Con, n int) bool {
	vars := []int{-1}
	for _, t := range c.Terms {
		if !isNormal(t.C) || value(t.C).Sign() == 0 {
			return false
		}
		vars = append(vars, t.Var)
	}
	for i := range vars[1:] {
		if vars[i] >= vars[i+1] {
			return false
		}
	}
	return vars[len(vars)-1] < n && slices.Contains([]int{0, 1, 2, 3, 4}, c.Strength) && isNormal(c.K)
}

// lineOf is a sum that may be of n variables.
func lineOf(c api.Con, n int) line {
	l := make(line, n+1)
	for i := range l {
		l[i] = new(big.Rat)
	}
	l[n] = value(c.K)
	for _, t := range c.Terms {
		l[t.Var] = value(t.C)
	}
	return l
}

// linesOf are the sums that count.
func linesOf(l []api.Con, n int) []line {
	var list []line
	for _, c := range l {
		if mayBe(c, n) {
			list = append(list, lineOf(c, n))
		}
	}
	return list
}

// cut are rows without what stands behind the variables.
func cut(list []line, n int) []line {
	var all []line
	for _, l := range list {
		all = append(all, l[:n])
	}
	return all
}

// lines are rows and more of them.
func lines(list []line, more ...line) []line { return slices.Concat(list, more) }

// rankOf is how many rows are independent. Columns are taken from the last one
// on, and from all other rows.
func rankOf(list []line) int {
	var all []line
	for _, l := range list {
		all = append(all, slices.Clone(l))
	}
	rank := 0
	for len(all) > rank {
		first, column := pivot(all[rank:])
		if column < 0 {
			break
		}
		all[rank], all[rank+first] = all[rank+first], all[rank]
		for i := rank + 1; i < len(all); i++ {
			take(all[i], all[rank], column)
		}
		rank++
	}
	return rank
}

// take takes a row from another one, so often that a column of that is 0 then.
func take(from, l line, column int) {
	if from[column].Sign() == 0 {
		return
	}
	by := new(big.Rat).Quo(from[column], l[column])
	for i, x := range l {
		if x.Sign() != 0 {
			from[i] = new(big.Rat).Sub(from[i], new(big.Rat).Mul(by, x))
		}
	}
}

// pivot is a number that is not 0, its row and its column; -1, if all are.
func pivot(list []line) (int, int) {
	for column := len(list[0]) - 1; column >= 0; column-- {
		for i, l := range list {
			if l[column].Sign() != 0 {
				return i, column
			}
		}
	}
	return 0, -1
}

// unit is a row that says that a variable is a number.
func unit(v, n int, x *big.Rat) line {
	l := lineOf(con(0, whole(0)), n)
	l[v] = big.NewRat(1, 1)
	l[n] = new(big.Rat).Neg(x)
	return l
}

func saidHeld(n int) int {
	switch {
	case n < 0:
		return 0
	case n > 64:
		return 64
	}
	return n
}

// said is what the document says of sums, told by ranks alone: they are
// consistent, if the numbers behind the variables make no row independent that
// is not so by its variables.
type said struct {
	n          int
	list       []line
	rank, full int // without what stands behind the variables, and with it
}

func saidOf(l []api.Con, n int) said {
	n = saidHeld(n)
	list := linesOf(l, n)
	return said{n, list, rankOf(cut(list, n)), rankOf(list)}
}

func (s said) consistent() bool { return s.rank == s.full }

// implies tells whether a row is put together of the others.
func (s said) implies(l line) bool { return rankOf(lines(s.list, l)) == s.full }

func (s said) impliesCon(c api.Con) bool {
	return !s.consistent() || mayBe(c, s.n) && s.implies(lineOf(c, s.n))
}

// isFixed tells whether Fixed of a variable is to tell a number.
func (s said) isFixed(v int) bool {
	return s.consistent() && 0 <= v && v < s.n && rankOf(cut(lines(s.list, unit(v, s.n, new(big.Rat))), s.n)) == s.rank
}

// expectSaid holds all that can be asked of sums against what the document
// says of them. It tells how many variables are fixed.
func expectSaid(t *testing.T, l []api.Con, asked []api.Con, n int) int {
	t.Helper()
	s := saidOf(l, n)
	if got := gauss.Consistent(l, n); got != s.consistent() {
		t.Fatalf("Consistent is %v of %v variables: %v", got, n, l)
	}
	if got := gauss.Rank(l, n); got != s.rank {
		t.Fatalf("Rank is %v, not %v, of %v variables: %v", got, s.rank, n, l)
	}
	for _, c := range asked {
		if got := gauss.Implies(l, c, n); got != s.impliesCon(c) {
			t.Fatalf("Implies is %v of %v variables: %v, by %v", got, n, c, l)
		}
	}
	fixed := 0
	for v := -1; v <= s.n+1; v++ {
		x, ok := gauss.Fixed(l, v, n)
		if ok != s.isFixed(v) || !ok && !alike(x, api.Rat{}) {
			t.Fatalf("Fixed of variable %v of %v is %v, %v: %v", v, n, x, ok, l)
		}
		if ok && (!isNormal(x) || !s.implies(unit(v, s.n, value(x)))) {
			t.Fatalf("Fixed of variable %v of %v is %v: %v", v, n, x, l)
		}
		if ok {
			fixed++
		}
	}
	return fixed
}

// determinant is worked out along the first row.
func determinant(list []line) *big.Rat {
	if len(list) == 0 {
		return big.NewRat(1, 1)
	}
	all := new(big.Rat)
	for column, x := range list[0] {
		var rest []line
		for _, l := range list[1:] {
			rest = append(rest, slices.Delete(slices.Clone(l), column, column+1))
		}
		part := determinant(rest)
		part.Mul(part, x)
		if column%2 == 1 {
			part.Neg(part)
		}
		all.Add(all, part)
	}
	return all
}

// chosen are all ways to choose so many of a number of things.
func chosen(count, of int) [][]int {
	if count == 0 {
		return [][]int{nil}
	}
	var list [][]int
	for last := count - 1; last < of; last++ {
		for _, others := range chosen(count-1, last) {
			list = append(list, append(slices.Clone(others), last))
		}
	}
	return list
}

// The rank that the tests work out is that of the greatest square of numbers
// whose determinant is not 0.
func TestRankOfTheTests(t *testing.T) {
	r := rand.New(rand.NewSource(100))
	count := map[int]int{}
	for i := range 600 {
		rows, columns := 1+r.Intn(4), 1+r.Intn(4)
		if i%3 == 0 {
			rows, columns = 4, 4
		}
		var list []line
		for range rows {
			var l line
			for range columns {
				l = append(l, big.NewRat(int64(r.Intn(5)-2), int64(1+r.Intn(2))))
			}
			if len(list) > 0 && r.Intn(4) == 0 {
				l = slices.Clone(list[r.Intn(len(list))])
			}
			list = append(list, l)
		}
		want := 0
		for size := 1; size <= min(rows, columns); size++ {
			for _, some := range chosen(size, rows) {
				for _, vars := range chosen(size, columns) {
					if determinant(square(list, some, vars)).Sign() != 0 {
						want = size
					}
				}
			}
		}
		if got := rankOf(list); got != want {
			t.Fatal("the rank of", list, "is", want, "and the tests say", got)
		}
		count[want]++
	}
	for rank := range 5 {
		if count[rank] < 5 {
			t.Error("too few of a rank:", count)
		}
	}
}

func square(list []line, rows, columns []int) []line {
	var some []line
	for _, i := range rows {
		var l line
		for _, k := range columns {
			l = append(l, list[i][k])
		}
		some = append(some, l)
	}
	return some
}

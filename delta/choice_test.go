package delta_test

import (
	"math/rand"
	"slices"
	"testing"

	"pantograph/api"
	"pantograph/delta"
)

// P13.1: choices that may be, and how strong each variable is; of those that
// tell none the numbers of those that are blocked.
func TestWalkAndBlocked(t *testing.T) {
	for _, x := range []struct {
		choice  string
		walk    string // the others are 4
		blocked []int
	}{
		{"", "", nil},
		// Nobody tells: all variables are Stay.
		{"0:a", "4", nil}, {"3:ab", "44", nil}, {"0:ab 3:a", "44", nil}, {"0:ab 1:bc 2:cd 3:d", "4444", nil}, {"4:a", "4", []int{0}}, {"4:abc 0:a", "4", []int{0}}, {"4:a 4:a 4:b", "4", []int{0, 1, 2}},
		// One that tells by itself.
		{"0:a>a", "0", nil}, {"1:a>a", "1", nil}, {"2:a>a", "2", nil}, {"3:a>a", "3", nil}, {"4:a>a", "4", nil}, {"2:c>c", "442", nil}, {"0:h>h", "44444440", nil}, {"0:a>a 3:b>b", "03", nil},
		// One that tells from others that nobody tells.
		{"0:ab>a", "44", nil}, {"0:ab>b", "44", nil}, {"3:abc>b", "444", nil}, {"4:ab>a", "44", nil},
		// One that tells from stronger ones, and from weaker ones.
		{"2:ab>a 1:b>b", "21", nil}, {"2:ab>b 1:a>a", "12", nil}, {"2:ab>a 2:b>b", "22", nil}, {"2:ab>a 3:b>b", "33", nil}, {"2:ab>b 3:a>a", "33", nil}, {"0:ab>a 4:b>b", "44", nil}, {"4:ab>a 0:b>b", "40", nil}, {"0:ab>a 0:b>b", "00", nil}, {"3:ab>a 0:b>b", "30", nil}, {"0:ab>a 3:b>b", "33", nil},
		// The weakest of all others, in each place.
		{"0:abc>a 1:b>b 2:c>c", "212", nil}, {"0:abc>a 2:b>b 1:c>c", "221", nil}, {"0:abc>b 1:a>a 2:c>c", "122", nil}, {"0:abc>b 2:a>a 1:c>c", "221", nil}, {"0:abc>c 1:a>a 3:b>b", "133", nil}, {"0:abc>c 3:a>a 1:b>b", "313", nil}, {"1:abcd>a 0:b>b 0:c>c 0:d>d", "1000", nil}, {"1:abcd>d 0:a>a 2:b>b 0:c>c", "0202", nil}, {"0:abc>a 1:b>b", "414", nil}, {"0:abc>c 1:a>a", "144", nil},
		// What the variable itself would be does not count.
		{"0:ab>b 1:a>a 2:b", "11", []int{2}}, {"0:ab>a 1:b>b", "11", nil}, {"0:a>a 3:a", "0", []int{1}},
		// Along chains, one way and the other.
		{"0:ab>a 0:bc>b 0:cd>c", "4444", nil}, {"0:ab>a 0:bc>b 0:cd>c 2:d>d", "2222", nil}, {"0:ab>a 1:bc>b 2:cd>c 3:d>d", "3333", nil}, {"3:ab>a 2:bc>b 1:cd>c 0:d>d", "3210", nil}, {"0:ab>a 3:bc>b 1:cd>c 0:d>d", "3310", nil}, {"2:ab>b 1:bc>c 0:cd>d 3:a>a", "3333", nil}, {"2:ab>b 1:bc>c 3:cd>d 0:a>a", "0223", nil}, {"1:ab>b 3:bc>c 2:cd>d 0:a>a", "0133", nil}, {"1:cd>d 0:a>a 2:bc>c 0:ab>b", "0022", nil}, {"0:ac>a 0:bc>c 1:b>b", "111", nil}, {"0:gh>g 0:fg>f 0:ef>e 2:h>h", "44442222", nil},
		// Trees.
		{"0:abc>a 1:bd>b 0:cef>c 0:d>d 2:e>e 1:f>f", "212021", nil}, {"0:abc>a 1:bd>b 0:cef>c 0:d>d 2:e>e", "414024", nil}, {"0:ad>a 0:bd>b 0:cd>c 2:d>d", "2222", nil}, {"0:ad>a 1:bd>b 3:cd>c 2:d>d", "2232", nil}, {"1:abc>a 2:ade>d 0:b>b 0:e>e", "40440", nil}, {"1:abc>a 2:ade>d 0:b>b 0:c>c 0:e>e", "10020", nil},
		// Blocked: tells none, and none of its variables is weaker.
		{"0:-", "", []int{0}}, {"3:-", "", []int{0}}, {"4:-", "", []int{0}}, {"1:- 0:a 2:-", "4", []int{0, 2}}, {"3:a>a 3:a", "3", []int{1}}, {"3:a>a 2:a", "3", nil}, {"2:a>a 3:a", "2", []int{1}}, {"2:a>a 3:a 2:a 1:a 0:a 4:a", "2", []int{1, 2, 5}}, {"0:a>a 0:a", "0", []int{1}}, {"1:a>a 0:a", "1", nil}, {"4:a>a 4:a 3:a", "4", []int{1}}, {"4:a>a 0:b>b 3:ab", "40", nil},
		{"2:ab 2:a>a 2:b>b", "22", []int{0}}, {"2:ab 1:a>a 2:b>b", "12", []int{0}}, {"2:ab 2:a>a 3:b>b", "23", nil}, {"2:ab 3:a>a 2:b>b", "32", nil}, {"2:ab 3:a>a 3:b>b", "33", nil}, {"2:ab 0:a>a 1:b>b", "01", []int{0}}, {"2:ab 0:a>a", "04", nil}, {"2:ab 0:b>b", "40", nil}, {"0:abc 0:a>a 0:b>b 0:c>c", "000", []int{0}}, {"0:abc 0:a>a 1:b>b 0:c>c", "010", nil}, {"3:abc 3:a>a 3:b>b 3:c>c", "333", []int{0}}, {"3:abc 3:a>a 3:b>b", "334", nil}, {"4:abc 3:a>a", "344", []int{0}},
		// As strong as it over others; weaker over others.
		{"1:a 0:ab>a 1:b>b", "11", []int{0}}, {"1:a 0:ab>a 2:b>b", "22", nil}, {"1:a 0:ab>a 0:b>b", "00", []int{0}}, {"2:a 0:ab>a 1:bc>b 2:c>c", "222", []int{0}}, {"2:a 0:ab>a 1:bc>b 3:c>c", "333", nil}, {"3:d 0:ab>b 0:bc>c 0:cd>d 3:a>a", "3333", []int{0}}, {"3:d 0:ab>b 0:bc>c 0:cd>d", "4444", nil}, {"3:d 0:ab>b 0:bc>c 0:cd>d 4:a>a", "4444", nil}, {"3:d 0:ab>b 4:bc>c 0:cd>d 3:a>a", "3344", nil},
		// One that tells is not blocked, whatever it is.
		{"3:a>a 3:b", "34", nil}, {"4:a>a 4:b>b", "44", nil}, {"4:ab>a 4:b", "44", []int{1}},
	} {
		l, outs := choice(x.choice)
		for _, n := range []int{8, 9, 63, 64} {
			walk := append(strengths(x.walk), slices.Repeat([]int{4}, n-len(x.walk))...)
			expectIs(t, l, outs, n)
			expectWalk(t, l, outs, n, walk)
			expectBlocked(t, l, outs, n, x.blocked)
		}
		expectSaid(t, l, outs, 8)
	}
}

// P13.1, P13.2: where a choice may not be, nothing is told, and it is as it
// was.
func TestChoicesThatMayNotBe(t *testing.T) {
	for _, text := range []string{
		// What is told is of no Term of the constraint.
		"0:a>b", "0:ab>c", "0:bc>a", "0:ac>b", "0:->a", "3:bd>c 0:c>c", "0:a>a 0:b>c", "0:a>a 0:b>b 1:ab>h", "4:h>a", "0:b>a 0:a>b",
		// A variable is told twice, by one ahead or by any other one.
		"0:a>a 0:a>a", "0:a>a 3:a>a", "0:ab>a 1:a>a", "0:ab>b 1:bc>b", "1:a>a 2:b>b 3:ac>a", "0:abc>c 1:cd>c", "0:a>a 1:b 2:c>c 3:a>a", "0:ah>h 1:b>b 1:bh>h",
		// Rings, whatever is told.
		"0:ab 0:ab", "0:ab>a 0:ab>b", "1:ab 2:bc 3:ac", "1:ab>a 2:bc>b 3:ac>c", "0:ab 1:cd 0:ab", "0:abc 3:ab", "0:abc>a 3:bc>b", "3:ab 3:bc 3:cd 3:ad", "0:cd 0:e 0:f 0:gh 4:gh", "0:abcd 1:defg 2:ag", "0:ab 0:bc 0:cd 0:de 0:ef 0:fg 0:gh 0:ah",
		// Among others that may be.
		"0:a>a 1:b 2:cd 3:d>d 1:d>d", "0:a>a 1:b 2:cd>e 3:d>d 1:d", "0:a>a 1:b 2:cd 3:d>d 1:cd",
	} {
		l, outs := choice(text)
		for _, n := range []int{1, 7, 8, 9, 64} {
			expectNone(t, l, outs, n)
		}
		expectSaid(t, l, outs, 8)
		// All the same in any order.
		slices.Reverse(l)
		slices.Reverse(outs)
		expectNone(t, l, outs, 8)
	}
}

// P13.1: of 1 to 64 variables, all of those of the constraints.
func TestNumbersOfVariables(t *testing.T) {
	l, outs := choice("1:a>a 0:- 2:a")
	for _, n := range []int{lowest, -1 << 32, -64, -2, -1, 0, 65, 66, 128, 1 << 16, 1 << 32, 1<<32 + 1, highest} {
		expectNone(t, nil, nil, n)
		expectNone(t, []api.Con{}, []int{}, n)
		expectNone(t, l, outs, n)
		expectNone(t, l[1:2], outs[1:2], n)
	}
	for n := 1; n <= 64; n++ {
		expectIs(t, nil, nil, n)
		walk := slices.Repeat([]int{4}, n)
		expectWalk(t, nil, nil, n, walk)
		walk[0] = 1
		expectWalk(t, l, outs, n, walk)
		expectBlocked(t, l, outs, n, []int{1, 2})
		// The last variable, the one behind it, and the one that it would be, if
		// there were as many as that.
		expectSettle(t, []api.Con{of(0, n-1)}, []int{-1}, n, []int{n - 1})
		expectNone(t, []api.Con{of(0, n)}, []int{-1}, n)
		expectNone(t, []api.Con{of(0, n-1, n)}, []int{n - 1}, n)
		expectNone(t, []api.Con{of(0, 64), of(0, 0)}, []int{-1, 0}, n)
		for _, out := range []int{n, n + 1, 64, 65, 1 << 32, 1<<32 + n - 1, highest, -2, -3, -64, -1 << 32, lowest} {
			expectNone(t, []api.Con{of(0, n-1)}, []int{out}, n)
			expectNone(t, []api.Con{of(1, 0), of(0, n-1), of(2)}, []int{-1, out, -1}, n)
		}
	}
	all := of(2, upTo(64)...)
	for v := range 64 {
		expectIs(t, []api.Con{all}, []int{v}, 64)
		expectNone(t, []api.Con{all}, []int{v}, 63)
		expectSaid(t, []api.Con{all, of(3, v)}, []int{v, -1}, 64)
		expectSaid(t, []api.Con{all, of(3, v)}, []int{63 - v, v}, 64)
	}
}

// P13.1: outs are as many as the constraints.
func TestAsManyOuts(t *testing.T) {
	l, _ := choice("0:ab 1:b 2:c 0:-")
	for count := range 9 {
		for _, outs := range [][]int{nobody(count), told("ab------")[:count]} {
			if count == 4 {
				expectIs(t, l, outs, 3)
				expectSaid(t, l, outs, 3)
			} else {
				expectNone(t, l, outs, 3)
			}
		}
	}
	expectNone(t, l, nil, 3)
	expectNone(t, l[:1], nil, 3)
	expectNone(t, l[:1], []int{}, 3)
	expectNone(t, nil, []int{-1}, 3)
	expectNone(t, nil, []int{0}, 3)
	expectNone(t, []api.Con{}, []int{-1, -1}, 3)
	expectNone(t, l, told("a---b"), 3)
	expectNone(t, l, told("a--"), 3)
	expectNone(t, l, slices.Repeat([]int{-1}, 1<<16), 3)
	for _, l := range [][]api.Con{nil, {}, make([]api.Con, 0, 3), l[:0]} {
		for _, outs := range [][]int{nil, {}, make([]int, 0, 3), told("ab")[:0]} {
			expectIs(t, l, outs, 3)
			expectWalk(t, l, outs, 3, strengths("444"))
			expectBlocked(t, l, outs, 3, nil)
			expectSettle(t, l, outs, 3, nil)
		}
	}
}

// P13.1: at most 256 constraints.
func TestGreatestNumberOfConstraints(t *testing.T) {
	r := rand.New(rand.NewSource(131))
	for _, count := range []int{254, 255, 256, 257, 258, 512, 1000, 1 << 16} {
		for i, pattern := range [][]api.Con{{of(0)}, {of(3, 0)}, {of(2, 0), of(1, 1), of(4, 0), of(3)}} {
			l := slices.Repeat(pattern, count)[:count]
			outs := nobody(count)
			if i > 0 {
				outs[count-count%4-4] = 0
			}
			if count > 256 {
				expectNone(t, l, outs, 2)
				continue
			}
			expectIs(t, l, outs, 2)
			expectSaid(t, l, outs, 2)
			expectSaid(t, l, nobody(count), 2)
		}
	}
	// 63 that join all, and others of one variable each.
	var l []api.Con
	for v := range 63 {
		l = append(l, of(r.Intn(5), v, v+1))
	}
	for i := range 194 {
		l = append(l, of(r.Intn(5), i%64))
	}
	r.Shuffle(len(l), func(i, k int) { l[i], l[k] = l[k], l[i] })
	m := &maker{Rand: r}
	expectNone(t, l, nobody(257), 64)
	for i := range 3 {
		expectSaid(t, l[:256], m.outs(l[:256], 4*i), 64)
		expectSaid(t, l[1:], m.outs(l[1:], 4*i), 64)
	}
}

// P13.1: constraints that may not be, alone and one of many, wherever it
// stands.
func TestConstraintsThatMayNotBe(t *testing.T) {
	for _, text := range []string{"", "0:-", "3:d", "1:de>d", "2:de 0:e>e 3:f"} {
		l, outs := choice(text)
		for _, bad := range badCons() {
			for at := range len(l) + 1 {
				with := slices.Insert(slices.Clone(l), at, bad)
				for _, out := range []int{-1, 0, 1} {
					for _, n := range []int{1, 6, 64} {
						expectNone(t, with, slices.Insert(slices.Clone(outs), at, out), n)
					}
				}
			}
		}
	}
	// The same ones, but for what may not be in them.
	for _, x := range []struct {
		good, bad api.Con
	}{
		{of(0, 0, 1), of(0, 1, 0)}, {of(4, 0, 1), of(5, 0, 1)}, {of(0, 0, 1), of(-1, 0, 1)}, {of(0, 0, 1), of(0, 0, 1, 1)}, {con(0, small(1, 2), row(0, 1)...), con(0, small(2, 4), row(0, 1)...)}, {con(0, whole(0), term(0, small(1, 2))), con(0, whole(0), term(0, small(2, 4)))}, {con(0, whole(0), term(0, whole(1))), con(0, api.Rat{}, term(0, whole(1)))}, {con(0, whole(0), term(0, whole(1))), con(0, whole(0), term(0, whole(0)))}, {of(0), con(0, api.Rat{})},
	} {
		outs := nobody(1)
		if len(x.good.Terms) > 0 {
			outs[0] = 0
		}
		expectIs(t, []api.Con{x.good}, outs, 2)
		expectNone(t, []api.Con{x.bad}, outs, 2)
	}
}

// P13.1, P13.2: all numbers that may be make no difference.
func TestNumbersMakeNoDifference(t *testing.T) {
	numbers := []api.Rat{whole(1), whole(-1), small(1, 2), small(-7, 3), ratOf(false, []uint32{0, 0, 1}, []uint32{most}), ratOf(true, []uint32{1}, slices.Repeat([]uint32{most}, 20))}
	for _, text := range []string{"0:ab 3:a", "0:ab>a 0:bc>b 2:c>c 1:a", "2:ac>a 1:ab", "3:- 2:ab 3:a>a 3:b"} {
		l, outs := choice(text)
		want, _ := delta.Settle(l, outs, 8)
		for i := range numbers {
			for k := range l {
				l[k].K = append(numbers, whole(0))[(i+k)%7]
				for at := range l[k].Terms {
					l[k].Terms[at].C = numbers[(i+at+2*k)%6]
				}
			}
			expectSaid(t, l, outs, 8)
			expectSettle(t, l, outs, 8, want)
		}
	}
}

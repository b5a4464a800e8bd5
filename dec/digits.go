package dec

import (
	"strings"

	"pantograph/api"
	"pantograph/nat"
	"pantograph/rat"
)

// maxBehind bounds the digits behind the point that may tell a number.
const maxBehind = 60

// Exact is a number in digits, if they tell it.
func Exact(a api.Rat) (string, bool) {
	a = rat.Norm(a)
	n, rest := inUnits(a, maxBehind)
	if !isNought(rest) {
		return "", false
	}
	// The point stops the noughts that are cut off: those ahead of it stay.
	digits := strings.TrimRight(withPoint(n, maxBehind), "0")
	return signed(a.Neg, strings.TrimSuffix(digits, ".")), true
}

// Round is the nearest number of so many digits.
func Round(a api.Rat, scale int) api.Rat {
	scale = heldScale(scale)
	neg, n := nearest(a, scale)
	return rat.Of(neg, n, powerOfTen(scale))
}

// Fixed is it in digits.
func Fixed(a api.Rat, scale int) string {
	scale = heldScale(scale)
	neg, n := nearest(a, scale)
	return signed(neg && !isNought(n), withPoint(n, scale))
}

func heldScale(scale int) int {
	return min(max(scale, 0), api.MaxScale)
}

// nearest is a number's sign, and how many units of its last digit, of so
// many behind the point, are nearest to it.
func nearest(a api.Rat, places int) (neg bool, n []uint32) {
	a = rat.Norm(a)
	n, rest := inUnits(a, places)
	half := nat.Cmp(nat.Add(rest, rest), a.D)
	// A number is even just if its last digit is.
	if half > 0 || half == 0 && isOdd(n) {
		n = nat.Add(n, nat.Of(1))
	}
	return a.Neg, n
}

// inUnits is how often the unit of so many digits behind the point is in a
// normal number without its sign, and what is left, by its D.
func inUnits(a api.Rat, places int) (n, rest []uint32) {
	n, rest, _ = nat.DivMod(nat.Mul(a.N, powerOfTen(places)), a.D)
	return n, rest
}

func isOdd(n []uint32) bool {
	return len(n) > 0 && n[0]%2 == 1
}

// withPoint writes so many units in digits: at least one stands ahead of the
// point.
func withPoint(n []uint32, places int) string {
	digits := nat.Print(n)
	if places == 0 {
		return digits
	}
	missing := max(places+1-len(digits), 0)
	digits = strings.Repeat("0", missing) + digits
	ahead := len(digits) - places
	return digits[:ahead] + "." + digits[ahead:]
}

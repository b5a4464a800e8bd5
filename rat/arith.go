package rat

import (
	"pantograph/api"
	"pantograph/nat"
)

// Add is both together.
func Add(a, b api.Rat) api.Rat {
	neg, n, d := crosswise(a, b)
	return Of(neg, n, d)
}

// Sub is one less the other.
func Sub(a, b api.Rat) api.Rat {
	neg, n, d := crosswise(a, turned(b))
	return Of(neg, n, d)
}

// turned has the other sign, even where it is 0: it stays inside the package.
func turned(a api.Rat) api.Rat {
	a.Neg = !a.Neg
	return a
}

// crosswise is the sum of both as sign, numerator and denominator, not yet
// normal. The denominator is never 0.
func crosswise(a, b api.Rat) (neg bool, n, d []uint32) {
	a, b = withDenominator(a), withDenominator(b)
	neg, n = addSigned(a.Neg, nat.Mul(a.N, b.D), b.Neg, nat.Mul(b.N, a.D))
	return neg, n, nat.Mul(a.D, b.D)
}

// withDenominator is 0 where a number has no denominator, else the number
// itself: all that Norm does beside does not change a sum.
func withDenominator(a api.Rat) api.Rat {
	if isNought(a.D) {
		return nought()
	}
	return a
}

// addSigned adds naturals with signs. A sum of 0 may have either sign.
func addSigned(negA bool, a []uint32, negB bool, b []uint32) (bool, []uint32) {
	if negA == negB {
		return negA, nat.Add(a, b)
	}
	if rest, ok := nat.Sub(a, b); ok {
		return negA, rest
	}
	rest, _ := nat.Sub(b, a)
	return negB, rest
}

// Mul is a product.
func Mul(a, b api.Rat) api.Rat {
	return Of(a.Neg != b.Neg, nat.Mul(a.N, b.N), nat.Mul(a.D, b.D))
}

// Div is a quotient.
func Div(a, b api.Rat) (api.Rat, bool) {
	if Zero(b) {
		return nought(), false
	}
	return Of(a.Neg != b.Neg, nat.Mul(a.N, b.D), nat.Mul(a.D, b.N)), true
}

// Neg is it with the other sign.
func Neg(a api.Rat) api.Rat {
	return Norm(turned(a))
}

// Cmp is which one is greater.
func Cmp(a, b api.Rat) int {
	neg, difference, _ := crosswise(a, turned(b))
	switch {
	case isNought(difference):
		return 0
	case neg:
		return -1
	}
	return 1
}

// Floor is the whole number below.
func Floor(a api.Rat) api.Rat {
	// Without a denominator there is no quotient: that is the 0 that is asked.
	q, r, _ := nat.DivMod(a.N, a.D)
	if a.Neg && !isNought(r) {
		q = nat.Add(q, one())
	}
	return Of(a.Neg, q, one())
}

package nat

import "math/bits"

// DivMod is how often, and what is left.
func DivMod(a, b []uint32) (q, r []uint32, ok bool) {
	a, b = head(a), head(b)
	switch {
	case len(b) == 0:
		return nil, nil, false
	case Cmp(a, b) < 0:
		return nil, Trim(a), true
	case len(b) == 1:
		q = Trim(a)
		left := divideByLimb(q, b[0])
		return head(q), Of(uint64(left)), true
	}
	q, r = divideLong(a, b)
	return q, r, true
}

// divideByLimb makes a the quotient, in place, and answers what is left.
func divideByLimb(a []uint32, by uint32) uint32 {
	left := uint32(0)
	for i := len(a) - 1; i >= 0; i-- {
		a[i], left = bits.Div32(left, a[i], by)
	}
	return left
}

// divideLong divides limb by limb, as by hand (Knuth's algorithm D). b is of
// two limbs or more and not above a; both are trimmed. Both are shifted until
// b's highest bit is set, so that a digit guessed by the highest limbs is at
// most a little too great.
func divideLong(a, b []uint32) (q, r []uint32) {
	up := bits.LeadingZeros32(b[len(b)-1])
	divisor := Shift(b, up)
	rest := append(Shift(a, up), 0)
	n := len(divisor)
	q = make([]uint32, len(rest)-n)
	for i := len(q) - 1; i >= 0; i-- {
		q[i] = takeOut(rest[i:i+n+1], divisor)
	}
	return head(q), Shift(rest, -up)
}

// takeOut answers how often the divisor is in piece, and leaves the rest
// there. piece has one limb more than the divisor, and the answer is one limb.
func takeOut(piece, divisor []uint32) uint32 {
	digit := guess(piece, divisor)
	if lessTimes(piece, divisor, digit) {
		digit--
		addBack(piece, divisor)
	}
	return digit
}

// guess is the digit by the three highest limbs of piece and the two highest
// of the divisor: it is right, or one too great.
func guess(piece, divisor []uint32) uint32 {
	n := len(divisor)
	first, second := uint64(divisor[n-1]), uint64(divisor[n-2])
	top := uint64(piece[n])<<limbBits | uint64(piece[n-1])
	digit, left := top/first, top%first
	for digit > maxLimb || digit*second > left<<limbBits|uint64(piece[n-2]) {
		digit--
		left += first
		if left > maxLimb {
			break
		}
	}
	return uint32(digit)
}

// lessTimes takes digit times the divisor out of piece, and tells whether
// that went below 0.
func lessTimes(piece, divisor []uint32, digit uint32) bool {
	carry, borrow := uint64(0), uint32(0)
	for i, limb := range divisor {
		carry += uint64(limb) * uint64(digit)
		piece[i], borrow = bits.Sub32(piece[i], uint32(carry), borrow)
		carry >>= limbBits
	}
	n := len(divisor)
	piece[n], borrow = bits.Sub32(piece[n], uint32(carry), borrow)
	return borrow != 0
}

// addBack makes up for a digit that was one too great: the carry beyond piece
// is the borrow that went there.
func addBack(piece, divisor []uint32) {
	carry := uint32(0)
	for i := range piece {
		piece[i], carry = bits.Add32(piece[i], limbAt(divisor, i), carry)
	}
}

// Gcd is the greatest common divisor.
func Gcd(a, b []uint32) []uint32 {
	a, b = Trim(a), Trim(b)
	if Cmp(a, b) < 0 {
		a, b = b, a
	}
	for len(a) > 2 && len(b) > 0 {
		_, r, _ := DivMod(a, b)
		a, b = b, r
	}
	if len(b) == 0 {
		return a
	}
	// a is of 64 bits, b below it: from here on no memory is needed.
	x, _ := To(a)
	y, _ := To(b)
	return Of(gcdWord(x, y))
}

func gcdWord(x, y uint64) uint64 {
	for y != 0 {
		x, y = y, x%y
	}
	return x
}

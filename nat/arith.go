package nat

import "math/bits"

// maxShift bounds what a shift may make out of a single limb.
const maxShift = 1 << 12

// Add is both together.
func Add(a, b []uint32) []uint32 {
	a, b = head(a), head(b)
	if len(a) < len(b) {
		a, b = b, a
	}
	sum := make([]uint32, len(a)+1)
	copy(sum, a)
	carry := uint32(0)
	for i := range a {
		sum[i], carry = bits.Add32(sum[i], limbAt(b, i), carry)
	}
	sum[len(a)] = carry
	return head(sum)
}

// Sub is one less the other.
func Sub(a, b []uint32) ([]uint32, bool) {
	if Cmp(a, b) < 0 {
		return nil, false
	}
	b = head(b)
	rest := Trim(a)
	borrow := uint32(0)
	for i := range rest {
		rest[i], borrow = bits.Sub32(rest[i], limbAt(b, i), borrow)
	}
	return head(rest), true
}

// limbAt is the limb at a place, 0 behind the last one.
func limbAt(a []uint32, i int) uint32 {
	if i < len(a) {
		return a[i]
	}
	return 0
}

// Mul is a product.
func Mul(a, b []uint32) []uint32 {
	a, b = head(a), head(b)
	product := make([]uint32, len(a)+len(b))
	for i, limb := range a {
		product[i+len(b)] = addTimes(product[i:i+len(b)], b, limb)
	}
	return head(product)
}

// addTimes adds b times factor into sum, which is as long as b, and answers
// the limb that goes beyond. The greatest product of two limbs leaves room in
// 64 bits for just two limbs more: the one that is there, and the carry.
func addTimes(sum, b []uint32, factor uint32) uint32 {
	carry := uint64(0)
	for i, limb := range b {
		carry += uint64(limb)*uint64(factor) + uint64(sum[i])
		sum[i] = uint32(carry)
		carry >>= limbBits
	}
	return uint32(carry)
}

// Shift is a number times a power of two.
func Shift(a []uint32, n int) []uint32 {
	// Held first: the lowest int has no negative.
	n = min(max(n, -maxShift), maxShift)
	if n < 0 {
		return shiftDown(head(a), -n)
	}
	return shiftUp(head(a), n)
}

func shiftUp(a []uint32, n int) []uint32 {
	skip, step := n/limbBits, n%limbBits
	shifted := make([]uint32, skip+len(a)+1)
	for i, limb := range a {
		wide := uint64(limb) << step
		shifted[skip+i] |= uint32(wide)
		shifted[skip+i+1] = uint32(wide >> limbBits)
	}
	return head(shifted)
}

func shiftDown(a []uint32, n int) []uint32 {
	skip, step := n/limbBits, n%limbBits
	if skip >= len(a) {
		return nil
	}
	shifted := make([]uint32, len(a)-skip)
	for i := range shifted {
		wide := uint64(limbAt(a, skip+i+1))<<limbBits | uint64(a[skip+i])
		shifted[i] = uint32(wide >> step)
	}
	return head(shifted)
}

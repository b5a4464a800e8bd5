// Package nat is numbers of limbs: see DOC.md, chapter 1.
package nat

import "math/bits"

const (
	limbBits = 32
	maxLimb  = 1<<limbBits - 1
)

// Is tells whether a row of limbs is trimmed.
func Is(a []uint32) bool {
	return len(a) == 0 || a[len(a)-1] != 0
}

// Trim takes noughts away.
func Trim(a []uint32) []uint32 {
	a = head(a)
	trimmed := make([]uint32, len(a))
	copy(trimmed, a)
	return trimmed
}

// head is Trim without a copy: it shares its memory with a, so it stays
// inside the package unless a is the call's own.
func head(a []uint32) []uint32 {
	for !Is(a) {
		a = a[:len(a)-1]
	}
	return a
}

// Of is a number as limbs.
func Of(n uint64) []uint32 {
	return head([]uint32{uint32(n), uint32(n >> limbBits)})
}

// To is limbs as a number.
func To(a []uint32) (uint64, bool) {
	a = head(a)
	if len(a) > 2 {
		return 0, false
	}
	n := uint64(0)
	for i, limb := range a {
		n |= uint64(limb) << (limbBits * i)
	}
	return n, true
}

// Cmp is which one is greater.
func Cmp(a, b []uint32) int {
	a, b = head(a), head(b)
	if len(a) != len(b) {
		return order(len(a) < len(b))
	}
	for i := len(a) - 1; i >= 0; i-- {
		if a[i] != b[i] {
			return order(a[i] < b[i])
		}
	}
	return 0
}

func order(below bool) int {
	if below {
		return -1
	}
	return 1
}

// Bits is how many bits it takes.
func Bits(a []uint32) int {
	a = head(a)
	if len(a) == 0 {
		return 0
	}
	last := len(a) - 1
	return last*limbBits + bits.Len32(a[last])
}

package nat

import "strconv"

const maxDigits = 400

// Digits are printed in groups: a group is as many as fit into one limb.
const (
	groupSize = 9
	groupUnit = 1000000000
)

// Parse is digits as limbs.
func Parse(s string) ([]uint32, bool) {
	if !areDigits(s) {
		return nil, false
	}
	var n []uint32
	for i := range len(s) {
		n = timesTen(n, s[i]-'0')
	}
	return n, true
}

func areDigits(s string) bool {
	if len(s) == 0 || len(s) > maxDigits {
		return false
	}
	for i := range len(s) {
		if s[i] < '0' || s[i] > '9' {
			return false
		}
	}
	return true
}

// timesTen puts a digit behind those of n, in place where there is room. It
// stays trimmed: a limb is added only for a carry, so noughts ahead add none.
func timesTen(n []uint32, digit byte) []uint32 {
	carry := uint64(digit)
	for i, limb := range n {
		carry += uint64(limb) * 10
		n[i] = uint32(carry)
		carry >>= limbBits
	}
	if carry > 0 {
		n = append(n, uint32(carry))
	}
	return n
}

// Print is limbs in digits.
func Print(a []uint32) string {
	groups := digitGroups(a)
	last := len(groups) - 1
	text := strconv.AppendUint(nil, uint64(groups[last]), 10)
	for i := last - 1; i >= 0; i-- {
		text = appendGroup(text, groups[i])
	}
	return string(text)
}

// digitGroups are a's groups of digits, the lowest first: at least one, and
// none of 0 at the end of two or more.
func digitGroups(a []uint32) []uint32 {
	rest := Trim(a)
	groups := []uint32{divideByLimb(rest, groupUnit)}
	for rest = head(rest); len(rest) > 0; rest = head(rest) {
		groups = append(groups, divideByLimb(rest, groupUnit))
	}
	return groups
}

// appendGroup writes all digits of a group, its noughts ahead, too.
func appendGroup(text []byte, group uint32) []byte {
	for unit := uint32(groupUnit / 10); unit > 0; unit /= 10 {
		text = append(text, byte('0'+group/unit%10))
	}
	return text
}

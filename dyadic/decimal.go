package dyadic

import (
	"slices"
	"strconv"
	"strings"
)

// Decimal digits are read and written in groups, of which each fits in a word.
const (
	groupDigits = 9
	groupSize   = 1_000_000_000
)

// decimal returns the decimal digits of m without leading zeros.
func decimal(m []uint32) string {
	groups := decimalGroups(m)
	if len(groups) == 0 {
		return "0"
	}
	slices.Reverse(groups)
	var text strings.Builder
	for i, group := range groups {
		digits := strconv.Itoa(int(group))
		if i > 0 {
			text.WriteString(strings.Repeat("0", groupDigits-len(digits)))
		}
		text.WriteString(digits)
	}
	return text.String()
}

// decimalGroups returns the digits of m in base groupSize, the least one first.
func decimalGroups(m []uint32) []uint32 {
	var groups []uint32
	rest := slices.Clone(m)
	for len(rest) > 0 {
		low := uint64(0)
		for i := len(rest) - 1; i >= 0; i-- {
			low = low<<wordBits | uint64(rest[i])
			rest[i] = uint32(low / groupSize)
			low %= groupSize
		}
		groups = append(groups, uint32(low))
		rest = trim(rest)
	}
	return groups
}

// isDecimal reports whether s consists of decimal digits without leading zeros.
func isDecimal(s string) bool {
	for i := range len(s) {
		if s[i] < '0' || s[i] > '9' {
			return false
		}
	}
	return s == "0" || s != "" && s[0] != '0'
}

// ofDecimal returns the number with the decimal digits s.
func ofDecimal(s string) []uint32 {
	var m []uint32
	for s != "" {
		n := (len(s)-1)%groupDigits + 1
		group := uint64(0)
		for i := range n {
			group = group*10 + uint64(s[i]-'0')
		}
		m = appendGroup(m, group)
		s = s[n:]
	}
	return m
}

// appendGroup changes m to m * groupSize + group.
func appendGroup(m []uint32, group uint64) []uint32 {
	carry := group
	for i, x := range m {
		carry += uint64(x) * groupSize
		m[i] = uint32(carry)
		carry >>= wordBits
	}
	return trim(append(m, uint32(carry)))
}

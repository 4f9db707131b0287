package dyadic

import (
	"cmp"
	"math/bits"
	"slices"
)

// Natural numbers are lists of words of 32 bits, the least word first and the last word not 0; 0 has no words.
// The functions of this file return new memory, but for trim.

const wordBits = 32

// trim cuts off the zeros at the end, so that m is a natural number.
func trim(m []uint32) []uint32 {
	for len(m) > 0 && m[len(m)-1] == 0 {
		m = m[:len(m)-1]
	}
	return m
}

// ofInt returns the absolute value of n.
func ofInt(n int) []uint32 {
	size := uint64(n)
	if n < 0 {
		size = -size
	}
	return trim([]uint32{uint32(size), uint32(size >> wordBits)})
}

// bitLength returns the number of bits of m, 0 for 0.
func bitLength(m []uint32) int {
	if len(m) == 0 {
		return 0
	}
	return (len(m)-1)*wordBits + bits.Len32(m[len(m)-1])
}

// trailingZeros returns how often 2 divides m, which is not 0.
func trailingZeros(m []uint32) int {
	i := 0
	for m[i] == 0 {
		i++
	}
	return i*wordBits + bits.TrailingZeros32(m[i])
}

func compare(m, n []uint32) int {
	if len(m) != len(n) {
		return cmp.Compare(len(m), len(n))
	}
	for i := len(m) - 1; i >= 0; i-- {
		if m[i] != n[i] {
			return cmp.Compare(m[i], n[i])
		}
	}
	return 0
}

func sum(m, n []uint32) []uint32 {
	if len(m) < len(n) {
		m, n = n, m
	}
	s := append(slices.Clone(m), 0)
	carry := addTo(s[:len(n)], n)
	for i := len(n); carry > 0; i++ {
		s[i], carry = bits.Add32(s[i], 0, carry)
	}
	return trim(s)
}

// addTo adds n to m, which is equally long, and returns the carry.
func addTo(m, n []uint32) uint32 {
	carry := uint32(0)
	for i := range n {
		m[i], carry = bits.Add32(m[i], n[i], carry)
	}
	return carry
}

// difference returns m - n for an m that is not less than n.
func difference(m, n []uint32) []uint32 {
	d := slices.Clone(m)
	borrow := uint32(0)
	for i := range n {
		d[i], borrow = bits.Sub32(d[i], n[i], borrow)
	}
	for i := len(n); borrow > 0; i++ {
		d[i], borrow = bits.Sub32(d[i], 0, borrow)
	}
	return trim(d)
}

func product(m, n []uint32) []uint32 {
	p := make([]uint32, len(m)+len(n))
	for i, x := range m {
		carry := uint64(0)
		for j, y := range n {
			carry += uint64(x)*uint64(y) + uint64(p[i+j])
			p[i+j] = uint32(carry)
			carry >>= wordBits
		}
		p[i+len(n)] = uint32(carry)
	}
	return trim(p)
}

// shiftLeft returns m * 2^n.
func shiftLeft(m []uint32, n int) []uint32 {
	whole, part := n/wordBits, n%wordBits
	s := make([]uint32, whole+len(m)+1)
	for i, x := range m {
		pair := uint64(x) << part
		s[whole+i] |= uint32(pair)
		s[whole+i+1] = uint32(pair >> wordBits)
	}
	return trim(s)
}

// shiftRight returns m / 2^n without its fraction.
func shiftRight(m []uint32, n int) []uint32 {
	whole, part := n/wordBits, n%wordBits
	if whole >= len(m) {
		return nil
	}
	s := slices.Clone(m[whole:])
	for i := range s {
		s[i] >>= part
		if whole+i+1 < len(m) {
			s[i] |= uint32(uint64(m[whole+i+1]) << wordBits >> part)
		}
	}
	return trim(s)
}

// quotient returns m / n without its fraction, for an n other than 0, and whether the fraction is 0.
func quotient(m, n []uint32) ([]uint32, bool) {
	if compare(m, n) < 0 {
		return nil, len(m) == 0
	}
	s := bits.LeadingZeros32(n[len(n)-1])
	divisor := shiftLeft(n, s)
	rest := append(shiftLeft(m, s), 0)
	q := make([]uint32, len(rest)-len(divisor))
	for i := len(q) - 1; i >= 0; i-- {
		q[i] = takeOff(rest[i:i+len(divisor)+1], divisor)
	}
	return trim(q), len(trim(rest)) == 0
}

// takeOff subtracts n from m as often as possible and returns how often, which is less than 2^32;
// m has one word more than n, and the first bit of n is 1.
// The estimate from the first words of both is right or, because of that bit, at most 2 too great.
func takeOff(m, n []uint32) uint32 {
	last := len(n)
	first := uint64(m[last])<<wordBits | uint64(m[last-1])
	times := min(first/uint64(n[last-1]), 1<<wordBits-1)
	carry := uint64(0)
	for i, x := range n {
		carry += times * uint64(x)
		left := uint64(m[i]) - uint64(uint32(carry))
		m[i] = uint32(left)
		carry = carry>>wordBits + left>>63
	}
	top := int(m[last]) - int(carry)
	for top < 0 {
		top += int(addTo(m[:last], n))
		times--
	}
	m[last] = 0
	return uint32(times)
}

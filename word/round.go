package word

import (
	"math/bits"
)

// far is beyond the words of every format, and so far below the greatest int that rounding it up cannot wrap around.
const far = 1 << 62

// round rounds floor + rest/den, where 0 <= rest < den.
// A den of at most 2^62 keeps twice the rest within an int.
func round(floor, rest, den, mode int) int {
	up := false
	switch mode {
	case RoundZero:
		up = floor < 0 && rest > 0
	case RoundHalf:
		up = 2*rest >= den
	case RoundEven:
		up = 2*rest > den || 2*rest == den && floor%2 != 0
	}
	if up {
		return floor + 1
	}
	return floor
}

// shiftRight returns x * 2^-n, rounded, for n from 0 to maxShift.
func shiftRight(x, n, mode int) int {
	den := 1 << n
	return round(x>>n, x&(den-1), den, mode)
}

// divide returns a / b, rounded, for a b other than 0; a and b are at most 2^62 from 0.
func divide(a, b, mode int) int {
	if b < 0 {
		a, b = -a, -b
	}
	floor, rest := a/b, a%b
	if rest < 0 {
		floor, rest = floor-1, rest+b
	}
	return round(floor, rest, b, mode)
}

// rescale returns x * 2^-n, rounded, for a word x and a difference n of two scales; instead of a number beyond every word
// it may return another one.
// The exponent is limited where a greater one changes nothing: times 2^MaxBits every word but 0 is beyond all words,
// and times 2^-maxShift it is nearer to 0 than a half.
func rescale(x, n, mode int) int {
	if n < 0 {
		return x << min(-n, MaxBits)
	}
	return shiftRight(x, min(n, maxShift), mode)
}

// total is the sum hi * 2^64 + lo: the products of MaxTerms pairs of words need more than 64 bits.
type total struct {
	hi int
	lo uint64
}

func (t total) plus(x int) total {
	lo, carry := bits.Add64(t.lo, uint64(x), 0)
	return total{hi: t.hi + x>>63 + int(carry), lo: lo}
}

// shiftRight returns the sum times 2^-n, rounded, for n from 0 to maxShift. Where that is no int, or above far, it returns
// a number of the same sign that is beyond every word too, which saturates to the same one.
func (t total) shiftRight(n, mode int) int {
	den := 1 << n
	floor := int(t.lo>>n | uint64(t.hi)<<(64-n))
	if hi := t.hi >> n; hi != floor>>63 {
		floor = far
		if hi < 0 {
			floor = -far
		}
	}
	return round(min(floor, far), int(t.lo)&(den-1), den, mode)
}

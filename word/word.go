// Package word is layer 1: fixed-point words with checked formats, operations that saturate, and one rounding per operation. See shared/doc/01-word.md.
package word

import (
	"commutator/api"
)

// The limits and modes.
const (
	MaxBits    = 32
	MaxScale   = 64
	MaxTerms   = 256
	RoundFloor = 0
	RoundZero  = 1
	RoundHalf  = 2
	RoundEven  = 3
)

// The greatest exponents of 2 that callers may scale a product and a dividend by.
const (
	maxShift    = 62
	maxDivShift = 31
)

// Check returns ErrRange unless f is a format.
func Check(f api.Format) error {
	if f.Bits < 2 || f.Bits > MaxBits || f.Scale < -MaxScale || f.Scale > MaxScale {
		return api.ErrRange
	}
	return nil
}

// Bounds returns the least and the greatest word of f.
func Bounds(f api.Format) (lo, hi int, err error) {
	if err := Check(f); err != nil {
		return 0, 0, err
	}
	lo, hi = limits(f)
	return lo, hi, nil
}

// Clip saturates x in f.
func Clip(f api.Format, x int) (int, bool, error) {
	if err := Check(f); err != nil {
		return 0, false, err
	}
	y, cut := saturate(f, x)
	return y, cut, nil
}

// Shift returns x * 2^-n, rounded.
func Shift(x, n, mode int) (int, error) {
	if n < -maxShift || n > maxShift || !isMode(mode) {
		return 0, api.ErrRange
	}
	if n >= 0 {
		return shiftRight(x, n, mode), nil
	}
	y := x << -n
	if y>>-n != x {
		return 0, api.ErrOverflow
	}
	return y, nil
}

// Add returns a + b, saturated.
func Add(f api.Format, a, b int) (int, bool, error) {
	if err := checkPair(f, a, b); err != nil {
		return 0, false, err
	}
	y, cut := saturate(f, a+b)
	return y, cut, nil
}

// Sub returns a - b, saturated.
func Sub(f api.Format, a, b int) (int, bool, error) {
	if err := checkPair(f, a, b); err != nil {
		return 0, false, err
	}
	y, cut := saturate(f, a-b)
	return y, cut, nil
}

// Mul returns a * b * 2^-n, rounded, then saturated.
func Mul(f api.Format, a, b, n, mode int) (int, bool, error) {
	if err := checkPair(f, a, b); err != nil {
		return 0, false, err
	}
	if n < 0 || n > maxShift || !isMode(mode) {
		return 0, false, api.ErrRange
	}
	y, cut := saturate(f, shiftRight(a*b, n, mode))
	return y, cut, nil
}

// Dot returns the sum of all a[i] * b[i], times 2^-n, rounded once, then saturated.
func Dot(f api.Format, a, b []int, n, mode int) (int, bool, error) {
	if err := checkLists(f, a, b); err != nil {
		return 0, false, err
	}
	if n < 0 || n > maxShift || !isMode(mode) {
		return 0, false, api.ErrRange
	}
	var sum total
	for i := range a {
		sum = sum.plus(a[i] * b[i])
	}
	y, cut := saturate(f, sum.shiftRight(n, mode))
	return y, cut, nil
}

// Div returns a * 2^n / b, rounded, then saturated.
func Div(f api.Format, a, b, n, mode int) (int, bool, error) {
	if err := checkPair(f, a, b); err != nil {
		return 0, false, err
	}
	if n < 0 || n > maxDivShift || !isMode(mode) {
		return 0, false, api.ErrRange
	}
	if b == 0 {
		return 0, false, api.ErrZero
	}
	y, cut := saturate(f, divide(a<<n, b, mode))
	return y, cut, nil
}

// Convert returns x * 2^(to.Scale - from.Scale), rounded, then saturated in to.
func Convert(from, to api.Format, x, mode int) (int, bool, error) {
	if err := Check(from); err != nil {
		return 0, false, err
	}
	if err := Check(to); err != nil {
		return 0, false, err
	}
	if !isWord(from, x) || !isMode(mode) {
		return 0, false, api.ErrRange
	}
	y, cut := saturate(to, rescale(x, from.Scale-to.Scale, mode))
	return y, cut, nil
}

// checkPair returns ErrRange unless f is a format and a and b are words of it.
func checkPair(f api.Format, a, b int) error {
	if err := Check(f); err != nil {
		return err
	}
	if !isWord(f, a) || !isWord(f, b) {
		return api.ErrRange
	}
	return nil
}

// checkLists returns the errors of Dot that do not depend on its exponent and mode.
func checkLists(f api.Format, a, b []int) error {
	if err := Check(f); err != nil {
		return err
	}
	if len(a) != len(b) {
		return api.ErrShape
	}
	if len(a) > MaxTerms {
		return api.ErrLarge
	}
	for i := range a {
		if !isWord(f, a[i]) || !isWord(f, b[i]) {
			return api.ErrRange
		}
	}
	return nil
}

func isMode(mode int) bool {
	return mode >= RoundFloor && mode <= RoundEven
}

func isWord(f api.Format, x int) bool {
	lo, hi := limits(f)
	return lo <= x && x <= hi
}

func limits(f api.Format) (lo, hi int) {
	return -1 << (f.Bits - 1), 1<<(f.Bits-1) - 1
}

func saturate(f api.Format, x int) (int, bool) {
	lo, hi := limits(f)
	y := min(max(x, lo), hi)
	return y, y != x
}

package angle

import (
	"math"
	"testing"

	"commutator/api"
)

// P5.1 for arguments that are refused.

func refuse(t *testing.T, got int, err error, name string, args ...int) {
	t.Helper()
	if got != 0 || err != api.ErrRange {
		t.Errorf("%s%v = %d, %v", name, args, got, err)
	}
}

func TestInterpRefusesDenominators(t *testing.T) {
	for _, den := range []int{math.MinInt, -1 << 20, -2, -1, 0, 1<<20 + 1, 1 << 32, 1<<32 + 1, math.MaxInt} {
		for _, num := range []int{math.MinInt, -2, -1, 0, 1, den, math.MaxInt} {
			got, err := Interp(3, 5, num, den)
			refuse(t, got, err, "Interp", 3, 5, num, den)
		}
	}
}

func TestInterpRefusesNumerators(t *testing.T) {
	for _, den := range []int{1, 2, 1000, 1 << 20} {
		for _, num := range []int{math.MinInt, -1 << 32, -den, -1, den + 1, 2 * den, 1 << 32, math.MaxInt} {
			got, err := Interp(3, 5, num, den)
			refuse(t, got, err, "Interp", 3, 5, num, den)
		}
	}
}

// outside are ints that are no positions.
var outside = []int{math.MinInt, math.MinInt + 1, -1 << 57, -1<<56 - 1, 1<<56 + 1, 1 << 57, math.MaxInt}

func TestPositionsAreRefused(t *testing.T) {
	for _, p := range outside {
		for _, a := range []int{math.MinInt, -1, 0, 1, half, p, math.MaxInt} {
			got, err := Unwrap(p, a)
			refuse(t, got, err, "Unwrap", p, a)
			got, err = Electric(p, 1, a)
			refuse(t, got, err, "Electric", p, 1, a)
		}
	}
}

func TestPairsAreRefused(t *testing.T) {
	for _, pairs := range []int{math.MinInt, -64, -1, 0, 65, 128, 1<<32 + 1, math.MaxInt} {
		for _, p := range append(outside, -1<<56, -1, 0, 1, 1<<56) {
			got, err := Electric(p, pairs, 7)
			refuse(t, got, err, "Electric", p, pairs, 7)
		}
	}
}

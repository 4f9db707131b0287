package root

import (
	"math"
	"testing"

	"commutator/api"
)

// P8.1 for arguments that are refused.

// outside are ints whose absolute values are above 2^30.
// The squares of some of them, or their low halves, look like those of short vectors.
var outside = []int{math.MinInt, math.MinInt + 1, -1 << 62, -1 << 32, -1 << 31, -most - 1, most + 1, 1 << 31, 1 << 32, 1<<32 + 1, 1 << 62, math.MaxInt}

// others are arguments beside one that is refused.
var others = []int{math.MinInt, -most - 1, -most, -1, 0, 1, most, most + 1, math.MaxInt}

func refuse(t *testing.T, zero bool, err error, name string, args ...int) {
	t.Helper()
	if !zero || err != api.ErrRange {
		t.Errorf("%s%v: %v", name, args, err)
	}
}

func refuseVector(t *testing.T, x, y int) {
	t.Helper()
	l, err := Length(x, y)
	refuse(t, l == 0, err, "Length", x, y)
	l, err = Above(x, y)
	refuse(t, l == 0, err, "Above", x, y)
}

func refuseLimited(t *testing.T, x, y, m int) {
	t.Helper()
	within, err := Within(x, y, m)
	refuse(t, !within, err, "Within", x, y, m)
	u, v, limited, err := Scale(x, y, m)
	refuse(t, u == 0 && v == 0 && !limited, err, "Scale", x, y, m)
}

func refuseRest(t *testing.T, m, d int) {
	t.Helper()
	r, err := Rest(m, d)
	refuse(t, r == 0, err, "Rest", m, d)
}

func TestCoordinatesAreRefused(t *testing.T) {
	for _, x := range outside {
		for _, y := range others {
			refuseVector(t, x, y)
			refuseVector(t, y, x)
			for _, m := range others {
				refuseLimited(t, x, y, m)
				refuseLimited(t, y, x, m)
			}
		}
	}
}

func TestLimitsAreRefused(t *testing.T) {
	for _, m := range append([]int{-1, -2, -5, -most}, outside...) {
		for _, x := range others {
			for _, y := range others {
				refuseLimited(t, x, y, m)
			}
			refuseRest(t, m, x)
		}
	}
}

func TestRestsAreRefused(t *testing.T) {
	for _, c := range []struct{ m, d int }{
		{0, 1},
		{0, -1},
		{4, 5},
		{4, -5},
		{most - 1, most},
		{most - 1, -most},
		{-1, 0},
		{-5, 3},
		{-5, 5},
		{-5, -5},
		{-most, most},
	} {
		refuseRest(t, c.m, c.d)
	}
	for _, d := range outside {
		for _, m := range others {
			refuseRest(t, m, d)
		}
	}
}

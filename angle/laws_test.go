package angle

import (
	"math"
	"testing"
)

// P5.2: Dist is a metric on the circle.

func TestDistIsZeroForTheSameAngleOnly(t *testing.T) {
	for _, a := range ints() {
		for _, turns := range []int{-1 << 47, -1, 0, 1, 1 << 40} {
			if d := Dist(a, a+turns*turn); d != 0 {
				t.Fatalf("Dist of %d and the same angle: %d", a, d)
			}
		}
		for x := 1; x < turn; x++ {
			if d := Dist(a, a+x); d < 1 || d > half {
				t.Fatalf("Dist of %d and %d more: %d", a, x, d)
			}
		}
	}
}

func TestDistIsSymmetric(t *testing.T) {
	for _, a := range ints() {
		for x := range turn {
			if Dist(a, a+x) != Dist(a+x, a) {
				t.Fatalf("Dist of %d and %d more, and the other way round: %d, %d", a, x, Dist(a, a+x), Dist(a+x, a))
			}
		}
	}
}

func TestNoWayIsLongerThanOverAThirdAngle(t *testing.T) {
	list := grid(241)
	for _, a := range []int{0, 1, 12345, half, turn - 1} {
		for _, b := range list {
			for _, c := range list {
				if Dist(a, c) > Dist(a, b)+Dist(b, c) {
					t.Fatalf("from %d to %d %d, over %d %d and %d", a, c, Dist(a, c), b, Dist(a, b), Dist(b, c))
				}
			}
		}
	}
}

// P5.2: Diff and Dist do not change if both angles are turned by the same amount.
func TestTurningChangesNoDifference(t *testing.T) {
	list := grid(1021)
	for _, a := range list {
		for _, b := range list {
			for _, by := range []int{-turn, -1, 1, 20000, half, turn, 1 << 62, math.MinInt} {
				if Diff(a+by, b+by) != Diff(a, b) || Dist(a+by, b+by) != Dist(a, b) {
					t.Fatalf("Diff(%d, %d) = %d, turned by %d: %d", a, b, Diff(a, b), by, Diff(a+by, b+by))
				}
			}
		}
	}
}

// P5.3: what Middle returns divides the distance of the two others.
func TestMiddleDividesTheDistance(t *testing.T) {
	near(func(a, b, c int) {
		m, ok := Middle(a, b, c)
		if !ok {
			return
		}
		u, v, found := others(m, a, b, c)
		if !found {
			t.Fatalf("Middle(%d, %d, %d) = %d is none of them", a, b, c, m)
		}
		if Dist(m, u)+Dist(m, v) != Dist(u, v) {
			t.Fatalf("Middle(%d, %d, %d) = %d: its distances are %d and %d", a, b, c, m, Dist(m, u), Dist(m, v))
		}
	})
}

// others returns the two of three angles that remain when one that is the same as m is taken away.
func others(m, a, b, c int) (u, v int, found bool) {
	switch 0 {
	case Dist(m, a):
		return b, c, true
	case Dist(m, b):
		return a, c, true
	case Dist(m, c):
		return a, b, true
	}
	return 0, 0, false
}

// P5.3: an angle that is near all three is not farther from the middle one than from both others.
func TestMiddleIsNeverTheFarthest(t *testing.T) {
	near(func(a, b, c int) {
		m, ok := Middle(a, b, c)
		if !ok {
			return
		}
		u, v, _ := others(m, a, b, c)
		for x := a - quarter + 1; x < a+quarter; x += 787 {
			if Dist(x, b) < quarter && Dist(x, c) < quarter && Dist(x, m) > Dist(x, u) && Dist(x, m) > Dist(x, v) {
				t.Fatalf("Middle(%d, %d, %d) = %d is farthest from %d", a, b, c, m, x)
			}
		}
	})
}

// P5.4: Interp begins at a, ends at b, goes along the shorter way, and never goes back.
func TestInterpGoesTheShorterWay(t *testing.T) {
	list := grid(4099)
	for _, a := range append(list, math.MinInt, math.MaxInt) {
		for _, b := range list {
			for _, den := range []int{1, 2, 3, 10, 64, 331} {
				goAlong(t, a, b, den)
			}
		}
	}
	for _, b := range []int{0, 1, half - 1, half, half + 1, turn - 1} {
		goAlong(t, 7, 7+b, 1<<20)
	}
}

func goAlong(t *testing.T, a, b, den int) {
	t.Helper()
	last, way := 0, Diff(b, a)
	for num := range den + 1 {
		x, err := Interp(a, b, num, den)
		gone := Diff(x, a)
		if err != nil || x != Norm(x) || gone*way < 0 || Dist(x, a) < last || Dist(x, a)+Dist(x, b) != Dist(a, b) {
			t.Fatalf("Interp(%d, %d, %d, %d) = %d, %v, at %d behind %d of %d", a, b, num, den, x, err, gone, last, way)
		}
		if num == 0 && gone != 0 || num == den && gone != way {
			t.Fatalf("Interp(%d, %d, %d, %d) = %d does not end at an angle", a, b, num, den, x)
		}
		last = Dist(x, a)
	}
}

// P5.4: Unwrap changes a position by half a turn at most, to the same angle.
func TestUnwrapStaysNear(t *testing.T) {
	for _, p := range []int{-1 << 56, -131073, -65536, -1, 0, 1, 131000, 1 << 56} {
		for a := -turn; a < 2*turn; a++ {
			q, err := Unwrap(p, a)
			if err != nil || q-p < -half || q-p > half || Norm(q) != Norm(a) {
				t.Fatalf("Unwrap(%d, %d) = %d, %v", p, a, q, err)
			}
		}
	}
}

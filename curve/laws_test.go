package curve

import (
	"testing"

	"commutator/api"
)

func at(t *testing.T, c api.Curve, x int) int {
	t.Helper()
	y, err := At(c, x)
	if err != nil {
		t.Fatalf("At(%v, %d): %v", c, x, err)
	}
	return y
}

// P9.2: At does not descend.
func TestAtDoesNotDescend(t *testing.T) {
	for _, c := range append(small(), curves(21)...) {
		list := places(c)
		for i := 1; i < len(list); i++ {
			if at(t, c, list[i-1]) > at(t, c, list[i]) {
				t.Fatalf("%v descends between %d and %d", c, list[i-1], list[i])
			}
		}
	}
}

// P9.2: at the points, At is exactly Y.
func TestAtPoints(t *testing.T) {
	for _, c := range append(small(), curves(22)...) {
		for i, x := range c.X {
			checkAt(t, c, x, c.Y[i])
		}
	}
}

// P9.2: between x and y, At differs by at most Steepest of their distance.
func TestDistances(t *testing.T) {
	for _, c := range append(small(), curves(23)...) {
		list := places(c)
		for i, x := range list {
			for j := i; j < len(list); j += 1 + (i+j)%5 {
				y := list[j]
				// Beyond the greatest int, distances are clipped all the same.
				d := y - x
				if d < 0 {
					d = 1<<63 - 1
				}
				bound, err := Steepest(c, d)
				if rise := at(t, c, y) - at(t, c, x); rise > bound || err != nil {
					t.Fatalf("%v rises by %d from %d to %d, the bound is %d, %v", c, rise, x, y, bound, err)
				}
			}
		}
	}
}

// P9.3: At of an odd curve is odd.
func TestOddCurves(t *testing.T) {
	for _, h := range halves(24) {
		c, err := Odd(h.X, h.Y)
		if err != nil {
			t.Fatalf("Odd(%v, %v): %v", h.X, h.Y, err)
		}
		for _, x := range places(c) {
			// The least int has no negative.
			if x == -x && x != 0 {
				continue
			}
			if up, down := at(t, c, x), at(t, c, -x); up != -down {
				t.Fatalf("%v is %d at %d and %d at %d", c, up, x, down, -x)
			}
		}
	}
}

// P9.4: between the first and the last X, At is at least y exactly from Inverse on.
func TestInverseIsGaloisInverse(t *testing.T) {
	for _, c := range append(small(), curves(25)...) {
		first, last := c.X[0], c.X[len(c.X)-1]
		for _, y := range values(c) {
			if y > c.Y[len(c.Y)-1] {
				continue
			}
			least, err := Inverse(c, y)
			if err != nil || least < first || least > last {
				t.Fatalf("Inverse(%v, %d) = %d, %v", c, y, least, err)
			}
			for _, x := range append(places(c), least-1, least, least+1) {
				if x >= first && x <= last && (at(t, c, x) >= y) != (x >= least) {
					t.Fatalf("%v is %d at %d, Inverse of %d is %d", c, at(t, c, x), x, y, least)
				}
			}
		}
	}
}

// P9.4: where Below holds, At of the lower curve is at most that of the other one.
func TestBelowOrdersValues(t *testing.T) {
	below := 0
	list := small()
	for i, a := range list {
		for j := i % 11; j < len(list); j += 11 {
			below += checkOrder(t, a, list[j])
		}
	}
	for i, a := range curves(26) {
		// All neighbours of all curves would take too long.
		if i >= 16 && i%5 > 0 {
			continue
		}
		for _, b := range neighbours(a) {
			below += checkOrder(t, a, b) + checkOrder(t, b, a)
		}
	}
	if below < 1000 {
		t.Errorf("only %d pairs are ordered", below)
	}
}

// checkOrder returns 1 if Below(a, b).
func checkOrder(t *testing.T, a, b api.Curve) int {
	t.Helper()
	below, err := Below(a, b)
	if err != nil {
		t.Fatalf("Below(%v, %v): %v", a, b, err)
	}
	if !below {
		return 0
	}
	for _, x := range append(places(a), b.X...) {
		if at(t, a, x) > at(t, b, x) {
			t.Fatalf("%v is above %v at %d", a, b, x)
		}
	}
	return 1
}

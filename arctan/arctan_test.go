package arctan

import (
	"math"
	"testing"
)

// P7.1: every function returns what is specified.

func TestExamples(t *testing.T) {
	for _, c := range []struct{ x, y, angle int }{
		{1, 1, 8192},
		{0, 5, 16384},
		{-3, 0, 32768},
		{1, -1, 57344},
		{0, 0, 0},
		{32767, 3, 1},
		{32767, 4, 1},
	} {
		if a := Angle(c.x, c.y); a != c.angle {
			t.Errorf("Angle(%d, %d) = %d, not %d", c.x, c.y, a, c.angle)
		}
	}
}

// The ends of the quarters, and the vectors next to them.
func TestQuarters(t *testing.T) {
	for _, c := range []struct{ x, y, angle int }{
		{1, 0, 0},
		{1 << 40, 1, 0},
		{1, 1 << 40, 16383},
		{0, 1, 16384},
		{-1, 1 << 40, 16384},
		{-1 << 40, 1, 32767},
		{-1, 0, 32768},
		{-1 << 40, -1, 32768},
		{-1, -1 << 40, 49151},
		{0, -1, 49152},
		{1, -1 << 40, 49152},
		{1 << 40, -1, 65535},
	} {
		if a := Angle(c.x, c.y); a != c.angle {
			t.Errorf("Angle(%d, %d) = %d, not %d", c.x, c.y, a, c.angle)
		}
	}
}

// A coordinate of 1 is lost where the other one is halved, and with it the difference of the directions.
func TestLongVectorsAreHalved(t *testing.T) {
	const least = math.MinInt
	for _, c := range []struct{ x, y, u, v, angle, order int }{
		{1 << 40, 1, 1, 0, 0, 1},
		{1<<40 + 1, 1, 1, 0, 0, 0},
		{1<<40 + 1, 2, 1, 0, 0, 1},
		{1<<41 + 1, 2, 1, 0, 0, 1},
		{1<<41 + 2, 3, 1, 0, 0, 0},
		{1<<41 + 2, 4, 1, 0, 0, 1},
		{1 << 40, -1, 1, 0, 65535, 1},
		{1<<40 + 1, -1, 1, 0, 0, 0},
		{-1 << 40, -1, -1, 0, 32768, 1},
		{-1<<40 - 1, -1, -1, 0, 32768, 0},
		{-1 << 40, 1, -1, 0, 32767, -1},
		{-1<<40 - 1, 1, -1, 0, 32768, 0},
		{-1, 1 << 40, 0, 1, 16384, 1},
		{-1, 1<<40 + 1, 0, 1, 16384, 0},
		{1, 1<<40 + 1, 0, 1, 16384, 0},
		{1, -1 << 40, 0, -1, 49152, 1},
		{-1, -1<<40 - 1, 0, -1, 49152, 0},
		{least, 1<<23 - 1, -1, 0, 32768, 0},
		{least, 1 - 1<<23, -1, 0, 32768, 0},
		{least, -1 << 23, -1, 0, 32768, 1},
		{math.MaxInt, 1<<23 - 1, 1, 0, 0, 0},
		{math.MaxInt, math.MaxInt, 1, 1, 8192, 0},
		{least, least, -1, -1, 40960, 0},
		{least, math.MaxInt, -1, 1, 24576, 1},
		{math.MaxInt, least, 1, -1, 57343, -1},
	} {
		if a := Angle(c.x, c.y); a != c.angle {
			t.Errorf("Angle(%d, %d) = %d, not %d", c.x, c.y, a, c.angle)
		}
		if o := Compare(c.x, c.y, c.u, c.v); o != c.order {
			t.Errorf("Compare(%d, %d, %d, %d) = %d, not %d", c.x, c.y, c.u, c.v, o, c.order)
		}
	}
}

// Of (Cos(1), Sin(1)) times an odd number the truncation moves the direction to before that of the angle 1.
func TestHalvingMayChangeTheAngle(t *testing.T) {
	const k = 1<<25 - 1
	if a := Angle(32767*k, 3*k); a != 1 {
		t.Errorf("the angle of a vector that is not halved is %d", a)
	}
	const l = 1<<26 + 1
	if a := Angle(32767*l, 3*l); a != 0 {
		t.Errorf("the angle of a vector that is halved is %d", a)
	}
}

func TestTurn(t *testing.T) {
	for _, c := range []struct{ x, y, u, v, turn int }{
		{0, 1, 1, 0, 16384},
		{1, 0, 0, 1, -16384},
		{1, 0, -1, 0, -32768},
		{-1, 0, 1, 0, -32768},
		{-1 << 20, 1, 1, 0, 32767},
		{-1 << 20, -1, 1, 0, -32768},
		{32767, 3, 1, -1, 8193},
		{1, -1, 32767, 3, -8193},
		{1, 1, -1, 1, -16384},
		{0, 0, 1, 1, -8192},
		{1, 1, 0, 0, 8192},
		{-1, 0, math.MinInt, 5, 0},
	} {
		if a := Turn(c.x, c.y, c.u, c.v); a != c.turn {
			t.Errorf("Turn(%d, %d, %d, %d) = %d, not %d", c.x, c.y, c.u, c.v, a, c.turn)
		}
	}
}

func TestCompare(t *testing.T) {
	for _, c := range []struct{ x, y, u, v, order int }{
		{1, 0, 1, 1, -1},
		{1, 1, 0, 1, -1},
		{0, 1, -1, 1, -1},
		{-1, 0, 0, 1, 1},
		{0, -1, -1, 0, 1},
		{1, -1, 1, 0, 1},
		{1, -1, 0, -1, 1},
		{2, 4, 1, 2, 0},
		{-9, 6, -3, 2, 0},
		{1, 2, -1, -2, -1},
		{0, 0, 7, 0, 0},
		{7, 0, 0, 0, 0},
		{0, 0, 1, -1, -1},
		{0, 0, 0, 0, 0},
		{3, 3000000, 1, 1000000, 0},
		// These have the same angle, and products that fit in 64 bits only without their greatest parts.
		{1 << 40, 1<<40 - 1, 1<<40 - 1, 1<<40 - 2, 1},
		{1<<40 - 1, 1<<40 - 2, 1 << 40, 1<<40 - 1, -1},
		{1 << 40, 1 << 40, 1<<40 - 1, 1<<40 - 1, 0},
		{1 << 40, 1 << 24, 1 << 39, 1 << 24, -1},
		{1 << 40, 1 << 40, 1 << 40, 1 << 39, 1},
	} {
		if o := Compare(c.x, c.y, c.u, c.v); o != c.order {
			t.Errorf("Compare(%d, %d, %d, %d) = %d, not %d", c.x, c.y, c.u, c.v, o, c.order)
		}
	}
}

func TestAllSizes(t *testing.T) {
	list := pairs()
	angles := make([]int, len(list))
	for i, v := range list {
		angles[i] = angleOf(v)
		if a := Angle(v.x, v.y); a != angles[i] {
			t.Fatalf("Angle(%d, %d) = %d, not %d", v.x, v.y, a, angles[i])
		}
	}
	for i, v := range list {
		for j := i % 7; j < len(list); j += 7 {
			checkPair(t, v, list[j], turnOf(angles[i], angles[j]))
		}
	}
}

func checkPair(t *testing.T, v, w vector, turn int) {
	t.Helper()
	if a := Turn(v.x, v.y, w.x, w.y); a != turn {
		t.Fatalf("Turn(%d, %d, %d, %d) = %d, not %d", v.x, v.y, w.x, w.y, a, turn)
	}
	if o := Compare(v.x, v.y, w.x, w.y); o != compareOf(v, w) {
		t.Fatalf("Compare(%d, %d, %d, %d) = %d, not %d", v.x, v.y, w.x, w.y, o, compareOf(v, w))
	}
}

func TestSmallVectors(t *testing.T) {
	for _, v := range grid(20) {
		if a := Angle(v.x, v.y); a != angleOf(v) {
			t.Fatalf("Angle(%d, %d) = %d, not %d", v.x, v.y, a, angleOf(v))
		}
	}
	for _, v := range grid(6) {
		for _, w := range grid(6) {
			checkPair(t, v, w, turnOf(angleOf(v), angleOf(w)))
		}
	}
}

package sine

import (
	"math"
	"testing"
)

// P6.2: no direction is longer than the radius, and none is shorter by more than 6.
func TestLengths(t *testing.T) {
	for a := range turn {
		cos, sin := Cos(a), Sin(a)
		if square := cos*cos + sin*sin; square > 1<<30 || square < 32762*32762 {
			t.Fatalf("of %d: %d, %d with the length %v", a, cos, sin, math.Sqrt(float64(square)))
		}
	}
}

// P6.3: in their absolute values Sin and Cos are at most the exact ones, and less than 5 less than those.
func TestErrors(t *testing.T) {
	for a := range turn {
		checkError(t, "Sin", a, Sin(a), exactSize(a))
		checkError(t, "Cos", a, Cos(a), exactCosSize(a))
	}
}

func checkError(t *testing.T, name string, a, x int, exact float64) {
	t.Helper()
	size := math.Abs(float64(x))
	if size > exact || size <= exact-5 {
		t.Fatalf("%s(%d) = %d, exactly %v", name, a, x, exact)
	}
	if a%quarter != 0 && exact-size < 1e-6 {
		t.Fatalf("%s(%d) = %d is too near to %v to be told by a float", name, a, x, exact)
	}
}

// P6.3 bounds absolute values; the signs are those of the exact functions.
func TestSigns(t *testing.T) {
	for a := range turn {
		sign := [4][2]int{{1, 1}, {-1, 1}, {-1, -1}, {1, -1}}[a/quarter]
		if Cos(a)*sign[0] < 0 || Sin(a)*sign[1] < 0 {
			t.Fatalf("of %d: %d, %d", a, Cos(a), Sin(a))
		}
	}
	for a, want := range map[int][2]int{0: {32768, 0}, quarter: {0, 32768}, half: {-32768, 0}, half + quarter: {0, -32768}} {
		if Cos(a) != want[0] || Sin(a) != want[1] {
			t.Errorf("of %d: %d, %d", a, Cos(a), Sin(a))
		}
	}
}

// P6.4: Sin is odd, and symmetric about a quarter turn.
func TestSymmetry(t *testing.T) {
	list := ints()
	for a := range turn {
		list = append(list, a)
	}
	for _, a := range list {
		if Sin(-a) != -Sin(a) {
			t.Fatalf("Sin(%d) = %d and Sin(%d) = %d", a, Sin(a), -a, Sin(-a))
		}
		if Sin(quarter-a) != Sin(quarter+a) {
			t.Fatalf("at %d behind a quarter turn %d, before it %d", a, Sin(quarter+a), Sin(quarter-a))
		}
	}
}

// P6.4: in the first quarter Sin never decreases.
func TestSinRises(t *testing.T) {
	for a := range quarter {
		if Sin(a+1) < Sin(a) {
			t.Fatalf("Sin(%d) = %d and Sin(%d) = %d", a, Sin(a), a+1, Sin(a+1))
		}
	}
}

// P6.4: a step of one unit changes Sin and Cos by at most 4 each, and turns the direction strictly counterclockwise.
func TestSteps(t *testing.T) {
	for a := range turn {
		x, y := Both(a)
		u, v := Both(a + 1)
		if max(u-x, x-u, v-y, y-v) > 4 {
			t.Fatalf("from %d on: %d, %d and then %d, %d", a, x, y, u, v)
		}
		if x*v-y*u <= 0 {
			t.Fatalf("from %d on: %d, %d does not turn counterclockwise to %d, %d", a, x, y, u, v)
		}
	}
}

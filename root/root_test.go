package root

import (
	"math"
	"testing"
)

// P8.1: every function returns what is specified.

func TestExamples(t *testing.T) {
	if a, b := Sqrt(99), Up(99); a != 9 || b != 10 {
		t.Errorf("of 99: %d, %d", a, b)
	}
	for _, c := range []struct{ x, y, length, above int }{{3, 4, 5, 5}, {1, 1, 1, 2}} {
		checkLength(t, vector{c.x, c.y}, c.length, c.above)
	}
	if r, err := Rest(13, 5); r != 12 || err != nil {
		t.Errorf("Rest(13, 5) = %d, %v", r, err)
	}
	checkScale(t, vector{300, 400}, 100, vector{60, 80}, true)
}

func checkLength(t *testing.T, v vector, length, above int) {
	t.Helper()
	if l, err := Length(v.x, v.y); l != length || err != nil {
		t.Fatalf("Length(%d, %d) = %d, %v, not %d", v.x, v.y, l, err, length)
	}
	if l, err := Above(v.x, v.y); l != above || err != nil {
		t.Fatalf("Above(%d, %d) = %d, %v, not %d", v.x, v.y, l, err, above)
	}
}

func checkScale(t *testing.T, v vector, m int, want vector, wantLimited bool) {
	t.Helper()
	x, y, limited, err := Scale(v.x, v.y, m)
	if x != want.x || y != want.y || limited != wantLimited || err != nil {
		t.Fatalf("Scale(%d, %d, %d) = %d, %d, %v, %v, not %v, %v", v.x, v.y, m, x, y, limited, err, want, wantLimited)
	}
}

func TestRoots(t *testing.T) {
	for _, c := range []struct{ n, down, up int }{
		{0, 0, 0},
		{1, 1, 1},
		{2, 1, 2},
		{3, 1, 2},
		{4, 2, 2},
		{5, 2, 3},
		{1<<52 - 1, 1<<26 - 1, 1 << 26},
		{94906267*94906267 - 1, 94906266, 94906267},
		{1<<60 - 1, 1<<30 - 1, 1 << 30},
		{1 << 62, 1 << 31, 1 << 31},
		{1<<62 + 1, 1 << 31, 1<<31 + 1},
		{3037000499*3037000499 - 1, 3037000498, 3037000499},
		{3037000499 * 3037000499, 3037000499, 3037000499},
		{3037000499*3037000499 + 1, 3037000499, 3037000500},
		{math.MaxInt, 3037000499, 3037000500},
	} {
		checkRoots(t, c.n, c.down, c.up)
	}
}

func checkRoots(t *testing.T, n, down, up int) {
	t.Helper()
	if r := Sqrt(n); r != down {
		t.Fatalf("Sqrt(%d) = %d, not %d", n, r, down)
	}
	if r := Up(n); r != up {
		t.Fatalf("Up(%d) = %d, not %d", n, r, up)
	}
}

func TestRootsOfNegativeNumbersAreZero(t *testing.T) {
	for _, n := range []int{-1, -2, -4, -99, -1 << 31, -1 << 32, 1 - 1<<62, -1 << 62, math.MinInt + 1, math.MinInt} {
		checkRoots(t, n, 0, 0)
	}
}

func TestRootsOfAllSizes(t *testing.T) {
	for _, n := range radicands() {
		checkRoots(t, n, floorOf(integer(n)), ceilOf(integer(n)))
	}
}

func TestRootsOfSmallNumbers(t *testing.T) {
	for r := range 400 {
		checkRoots(t, r*r, r, r)
		for n := r*r + 1; n < (r+1)*(r+1); n++ {
			checkRoots(t, n, r, r+1)
		}
	}
}

func TestLengths(t *testing.T) {
	for _, c := range []struct{ x, y, length, above int }{
		{0, 0, 0, 0},
		{0, -1, 1, 1},
		{-3, 4, 5, 5},
		{-5, -12, 13, 13},
		{2, 2, 2, 3},
		{4, -8, 8, 9},
		{most, 0, most, most},
		{0, -most, most, most},
		{most, 1, most, most + 1},
		{-1, most, most, most + 1},
		{most, most, 1518500249, 1518500250},
		{-most, -most, 1518500249, 1518500250},
	} {
		checkLength(t, vector{c.x, c.y}, c.length, c.above)
	}
}

func TestLengthsOfAllSizes(t *testing.T) {
	for _, v := range append(pairs(), grid(40)...) {
		checkLength(t, v, floorOf(lengthOf(v)), ceilOf(lengthOf(v)))
	}
}

func TestRest(t *testing.T) {
	for _, c := range []struct{ m, d, rest int }{
		{13, -5, 12},
		{13, 12, 5},
		{13, 0, 13},
		{13, 13, 0},
		{13, -13, 0},
		{0, 0, 0},
		{2, 1, 1},
		{3, -2, 2},
		{most, 0, most},
		{most, most, 0},
		{most, -most, 0},
		{most, 1, most - 1},
		{most, most - 1, 46340},
		{most, 1 - most, 46340},
	} {
		checkRest(t, c.m, c.d, c.rest)
	}
}

func checkRest(t *testing.T, m, d, rest int) {
	t.Helper()
	if r, err := Rest(m, d); r != rest || err != nil {
		t.Fatalf("Rest(%d, %d) = %d, %v, not %d", m, d, r, err, rest)
	}
}

func TestRestsOfAllSizes(t *testing.T) {
	for _, v := range append(pairs(), grid(60)...) {
		m, d := max(v.x, -v.x), v.y
		if max(d, -d) > m {
			continue
		}
		n := squareOf(m)
		checkRest(t, m, d, floorOf(n.Sub(n, squareOf(d))))
	}
}

func TestWithin(t *testing.T) {
	for _, c := range []struct {
		x, y, m int
		within  bool
	}{
		{3, 4, 5, true},
		{3, -4, 4, false},
		{-3, -4, 6, true},
		{0, 0, 0, true},
		{0, 1, 0, false},
		{1, 0, 0, false},
		{1, 1, 1, false},
		{1, 1, 2, true},
		{most, 0, most, true},
		{0, -most, most, true},
		{most, 1, most, false},
		{most - 1, 46340, most, true},
		{most - 1, 46341, most, false},
		{-most, most, most, false},
	} {
		checkWithin(t, vector{c.x, c.y}, c.m, c.within)
	}
}

func checkWithin(t *testing.T, v vector, m int, want bool) {
	t.Helper()
	if within, err := Within(v.x, v.y, m); within != want || err != nil {
		t.Fatalf("Within(%d, %d, %d) = %v, %v", v.x, v.y, m, within, err)
	}
}

func TestScale(t *testing.T) {
	for _, c := range []struct {
		x, y, m, u, v int
		limited       bool
	}{
		{300, 400, 500, 300, 400, false},
		{300, 400, 499, 299, 399, true},
		{-300, 400, 100, -60, 80, true},
		{300, -400, 100, 60, -80, true},
		{-7, 0, 3, -3, 0, true},
		{0, 0, 0, 0, 0, false},
		{5, -5, 0, 0, 0, true},
		// The length is between 14 and 15, and with 14 each coordinate would be 8, which is too long.
		{10, 10, 12, 8, 8, true},
		{10, 10, 10, 6, 6, true},
		{-10, -10, 10, -6, -6, true},
		{10, 10, 14, 9, 9, true},
		{10, 10, 15, 10, 10, false},
		// The coordinates 99 / 100 and -99 / 100 both become 0.
		{1, 99, 99, 0, 98, true},
		{-1, 99, 99, 0, 98, true},
		{99, -1, 99, 98, 0, true},
		{most, 0, most, most, 0, false},
		{most, most, most, 759250124, 759250124, true},
		{-most, most, most, -759250124, 759250124, true},
		{-most, -most, 1, 0, 0, true},
		{-most, 1, most, 1 - most, 0, true},
	} {
		checkScale(t, vector{c.x, c.y}, c.m, vector{c.u, c.v}, c.limited)
	}
}

func TestScaleOfAllSizes(t *testing.T) {
	for _, v := range append(pairs(), grid(20)...) {
		for _, m := range limits(v) {
			checkWithin(t, v, m, withinOf(v, m))
			want, limited := scaledOf(v, m)
			checkScale(t, v, m, want, limited)
		}
	}
}

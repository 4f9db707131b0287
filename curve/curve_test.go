package curve

import (
	"math"
	"testing"

	"commutator/api"
)

// P9.1: every function returns what is specified.

func TestExamples(t *testing.T) {
	for _, c := range []struct{ x, y int }{{2, 3}, {-3, -1}, {100, 6}, {-4, -2}} {
		checkAt(t, made(), c.x, c.y)
	}
	for _, c := range []struct{ y, x int }{{1, 1}, {-1, -3}} {
		checkInverse(t, made(), c.y, c.x)
	}
	refuseInverse(t, made(), 7, api.ErrRange)
	checkSteepest(t, made(), 3, 5)
}

func checkAt(t *testing.T, c api.Curve, x, want int) {
	t.Helper()
	if y, err := At(c, x); y != want || err != nil {
		t.Fatalf("At(%v, %d) = %d, %v, not %d", c, x, y, err, want)
	}
}

func checkInverse(t *testing.T, c api.Curve, y, want int) {
	t.Helper()
	if x, err := Inverse(c, y); x != want || err != nil {
		t.Fatalf("Inverse(%v, %d) = %d, %v, not %d", c, y, x, err, want)
	}
}

func checkSteepest(t *testing.T, c api.Curve, d, want int) {
	t.Helper()
	if s, err := Steepest(c, d); s != want || err != nil {
		t.Fatalf("Steepest(%v, %d) = %d, %v, not %d", c, d, s, err, want)
	}
}

func TestCurves(t *testing.T) {
	for _, c := range append(small(), curves(1)...) {
		if err := Check(c); err != nil {
			t.Fatalf("Check(%v) = %v", c, err)
		}
	}
}

func TestAt(t *testing.T) {
	rising, steep := extreme()[0], extreme()[10]
	for _, c := range []struct {
		curve api.Curve
		x, y  int
	}{
		{made(), math.MinInt, -5},
		{made(), -11, -5},
		{made(), -10, -5},
		{made(), -9, -4},
		{made(), -1, 0},
		{made(), 0, 0},
		{made(), 1, 1},
		{made(), 3, 4},
		{made(), 4, 6},
		{made(), 5, 6},
		{made(), math.MaxInt, 6},
		{rising, math.MinInt, -most},
		{rising, -most, -most},
		{rising, 12345, 12345},
		{rising, most - 1, most - 1},
		{rising, most + 1, most},
		{steep, 0, -most},
		{steep, 1, most},
	} {
		checkAt(t, c.curve, c.x, c.y)
	}
}

func TestAtOfAllSizes(t *testing.T) {
	for _, c := range append(small(), curves(2)...) {
		for _, x := range places(c) {
			checkAt(t, c, x, atOf(c, x))
		}
	}
}

func TestInverse(t *testing.T) {
	// At is 0 from -1 to 1 and from 8 on, although the values rise there.
	flat := api.Curve{X: []int{-4, 4}, Y: []int{-2, 2}}
	late := api.Curve{X: []int{0, 5, 9}, Y: []int{-3, -3, 0}}
	for _, c := range []struct {
		curve api.Curve
		y, x  int
	}{
		{made(), math.MinInt, -10},
		{made(), -6, -10},
		{made(), -5, -10},
		{made(), -4, -9},
		{made(), 0, -1},
		{made(), 2, 2},
		{made(), 5, 4},
		{made(), 6, 4},
		{flat, -1, -3},
		{flat, 0, -1},
		{flat, 1, 2},
		{flat, 2, 4},
		{late, -3, 0},
		{late, -2, 6},
		{late, -1, 7},
		{late, 0, 8},
		{extreme()[0], most, most},
		{extreme()[0], 0, 0},
		{extreme()[1], most, -most},
		{extreme()[7], 1, most},
	} {
		checkInverse(t, c.curve, c.y, c.x)
	}
}

func TestInverseOfAllSizes(t *testing.T) {
	for _, c := range append(small(), curves(3)...) {
		last := c.Y[len(c.Y)-1]
		for _, y := range values(c) {
			if y > last {
				refuseInverse(t, c, y, api.ErrRange)
				continue
			}
			checkInverse(t, c, y, inverseOf(c, y))
		}
	}
}

func TestSteepest(t *testing.T) {
	level := api.Curve{X: []int{-3, 9}, Y: []int{4, 4}}
	for _, c := range []struct {
		curve    api.Curve
		d, bound int
	}{
		{made(), 0, 0},
		{made(), 1, 2},
		{made(), 2, 3},
		{made(), -1, 0},
		{made(), math.MinInt, 0},
		{made(), 1<<31 - 1, 3<<30 - 1},
		{made(), 1 << 31, 3 << 30},
		{made(), 1<<31 + 1, 3 << 30},
		{made(), math.MaxInt, 3 << 30},
		{level, math.MaxInt, 0},
		{extreme()[0], 1 << 31, 1 << 31},
		{extreme()[7], 1, 1},
		{extreme()[10], 1, 1 << 31},
		{extreme()[10], 1 << 31, 1 << 62},
	} {
		checkSteepest(t, c.curve, c.d, c.bound)
	}
}

func TestSteepestOfAllSizes(t *testing.T) {
	for _, c := range append(small(), curves(4)...) {
		for _, d := range append(places(c), 3, 10, 1000, 1<<20+1, 1<<31-1) {
			checkSteepest(t, c, d, steepestOf(c, d))
		}
	}
}

func TestOdd(t *testing.T) {
	for _, c := range []struct {
		x, y []int
		want api.Curve
	}{
		{[]int{1}, []int{0}, api.Curve{X: []int{-1, 0, 1}, Y: []int{0, 0, 0}}},
		{[]int{2, 5}, []int{1, 7}, api.Curve{X: []int{-5, -2, 0, 2, 5}, Y: []int{-7, -1, 0, 1, 7}}},
		{[]int{3, most}, []int{most, most}, api.Curve{X: []int{-most, -3, 0, 3, most}, Y: []int{-most, -most, 0, most, most}}},
	} {
		checkOdd(t, c.x, c.y, c.want)
	}
}

func checkOdd(t *testing.T, x, y []int, want api.Curve) {
	t.Helper()
	if c, err := Odd(x, y); !same(c, want) || err != nil {
		t.Fatalf("Odd(%v, %v) = %v, %v, not %v", x, y, c, err, want)
	}
}

func TestOddOfAllSizes(t *testing.T) {
	for _, h := range halves(5) {
		want := api.Curve{X: []int{0}, Y: []int{0}}
		for i := range h.X {
			want.X = append(append([]int{-h.X[i]}, want.X...), h.X[i])
			want.Y = append(append([]int{-h.Y[i]}, want.Y...), h.Y[i])
		}
		checkOdd(t, h.X, h.Y, want)
	}
}

func TestBelow(t *testing.T) {
	for _, c := range []struct {
		name string
		a, b api.Curve
		want bool
	}{
		{"itself", made(), made(), true},
		{"lower", api.Curve{X: []int{-10, 0, 4}, Y: []int{-6, -1, 5}}, made(), true},
		{"higher", api.Curve{X: []int{-10, 0, 4}, Y: []int{-4, 1, 7}}, made(), false},
		{"the chord of a bend downward", api.Curve{X: []int{-10, 4}, Y: []int{-5, 6}}, made(), false},
		{"a bend below its chord", made(), api.Curve{X: []int{-10, 4}, Y: []int{-5, 6}}, true},
		{"higher at a point of a", api.Curve{X: []int{0, 2, 8}, Y: []int{-9, 4, 4}}, made(), false},
		{"equal at a point of a", api.Curve{X: []int{0, 2, 8}, Y: []int{-9, 3, 3}}, made(), true},
		{"higher before the first point", api.Curve{X: []int{-9, 2, 8}, Y: []int{-4, -4, -4}}, made(), false},
		{"higher after the last point", api.Curve{X: []int{5, 50}, Y: []int{-9, 7}}, made(), false},
		{"without a common place", api.Curve{X: []int{50, 60}, Y: []int{-9, -6}}, made(), true},
		{"above, less than 1", api.Curve{X: []int{0, 3}, Y: []int{0, 2}}, api.Curve{X: []int{0, 1, 3}, Y: []int{0, 0, 2}}, false},
		{"below, less than 1", api.Curve{X: []int{0, 1, 3}, Y: []int{0, 0, 2}}, api.Curve{X: []int{0, 3}, Y: []int{0, 2}}, true},
	} {
		if below, err := Below(c.a, c.b); below != c.want || err != nil {
			t.Errorf("%s: %v, %v", c.name, below, err)
		}
	}
}

func checkBelow(t *testing.T, a, b api.Curve) {
	t.Helper()
	want := belowOf(a, b)
	if below, err := Below(a, b); below != want || err != nil {
		t.Fatalf("Below(%v, %v) = %v, %v", a, b, below, err)
	}
}

func TestBelowOfSmallCurves(t *testing.T) {
	list := small()
	for i, a := range list {
		for j := i % 7; j < len(list); j += 7 {
			checkBelow(t, a, list[j])
		}
	}
}

func TestBelowOfAllSizes(t *testing.T) {
	list := curves(6)
	for i, a := range list {
		checkBelow(t, a, a)
		checkBelow(t, a, list[(i+1)%len(list)])
		// All neighbours of all curves would take too long.
		if i >= 16 && i%23 > 0 {
			continue
		}
		for _, b := range neighbours(a) {
			checkBelow(t, a, b)
			checkBelow(t, b, a)
		}
	}
}

func TestScale(t *testing.T) {
	for _, c := range []struct {
		y, want []int
		num     int
	}{
		{[]int{-5, 0, 6}, []int{-2, 0, 3}, 1 << 15},
		{[]int{-5, 0, 6}, []int{-5, 0, 6}, 1 << 16},
		{[]int{-5, 0, 6}, []int{-10, 0, 12}, 1 << 17},
		{[]int{-5, 0, 6}, []int{0, 0, 0}, 0},
		{[]int{-5, 0, 6}, []int{-4, 0, 5}, 1<<16 - 1},
		{[]int{-65536, 65535, 65536}, []int{-1, 0, 1}, 1},
		{[]int{-most, -1, most}, []int{-most, -1, most}, 1 << 16},
		{[]int{-most / 2, 0, most / 2}, []int{-most, 0, most}, 1 << 17},
		// 1073725441 * 65537 is 2^46 + 49153: only what is cut off is beyond the range.
		{[]int{-1073725441, 0, 1073725441}, []int{-most, 0, most}, 65537},
	} {
		checkScale(t, api.Curve{X: []int{-10, 0, 4}, Y: c.y}, c.num, api.Curve{X: []int{-10, 0, 4}, Y: c.want})
	}
}

func checkScale(t *testing.T, c api.Curve, num int, want api.Curve) {
	t.Helper()
	if s, err := Scale(c, num); !same(s, want) || err != nil {
		t.Fatalf("Scale(%v, %d) = %v, %v, not %v", c, num, s, err, want)
	}
}

func TestScaleOfAllSizes(t *testing.T) {
	for i, c := range append(small(), curves(7)...) {
		for _, num := range []int{0, 1, i % 65536, 1<<15 - 1, 1<<16 - 1, 1 << 16, 1<<16 + 1, 98304 + i, 1<<17 - 1, 1 << 17} {
			want, inside := scaledOf(c, num)
			if !inside {
				refuseScale(t, c, num, api.ErrRange)
				continue
			}
			checkScale(t, c, num, want)
		}
	}
}

package curve

import (
	"math"
	"slices"
	"testing"

	"commutator/api"
)

// P9.1 for arguments that are refused.

// outsides are ints that are no coordinates.
var outsides = []int{math.MinInt, math.MinInt + 1, -1 << 62, -1 << 32, -1 << 31, -most - 1, most + 1, 1 << 31, 1 << 32, 1 << 62, math.MaxInt}

type refused struct {
	c    api.Curve
	want error
}

// line returns n points of a straight line.
func line(n int) []int {
	var list []int
	for i := range n {
		list = append(list, i)
	}
	return list
}

// refusedCurves are curves with one thing wrong, or with two, of which one is to be found first.
func refusedCurves() []refused {
	list := []refused{
		{api.Curve{}, api.ErrShape},
		{api.Curve{X: []int{}, Y: []int{}}, api.ErrShape},
		{api.Curve{X: []int{0}, Y: []int{0}}, api.ErrShape},
		{api.Curve{X: []int{most + 1}, Y: []int{0}}, api.ErrShape},
		{api.Curve{X: []int{0, 1}}, api.ErrShape},
		{api.Curve{X: []int{0, 1}, Y: []int{0}}, api.ErrShape},
		{api.Curve{X: []int{0, 1}, Y: []int{0, 1, 2}}, api.ErrShape},
		{api.Curve{X: []int{0, 0}, Y: []int{most + 1, 1, 2}}, api.ErrShape},
		{api.Curve{X: line(33), Y: line(34)}, api.ErrShape},
		{api.Curve{X: line(40), Y: line(32)}, api.ErrShape},
		{api.Curve{X: line(33), Y: line(33)}, api.ErrLarge},
		{api.Curve{X: make([]int, 33), Y: make([]int, 33)}, api.ErrLarge},
		{api.Curve{X: make([]int, 1000), Y: make([]int, 1000)}, api.ErrLarge},
		{api.Curve{X: []int{0, 0}, Y: []int{0, 1}}, api.ErrOrder},
		{api.Curve{X: []int{0, 0}, Y: []int{0, 0}}, api.ErrOrder},
		{api.Curve{X: []int{1, 0}, Y: []int{0, 1}}, api.ErrOrder},
		{api.Curve{X: []int{0, 1}, Y: []int{1, 0}}, api.ErrOrder},
		{api.Curve{X: []int{most, -most}, Y: []int{0, 0}}, api.ErrOrder},
		{api.Curve{X: []int{0, 1, 2}, Y: []int{5, 5, 4}}, api.ErrOrder},
		{api.Curve{X: []int{0, 2, 2}, Y: []int{4, 5, 6}}, api.ErrOrder},
		{api.Curve{X: []int{0, 2, 1}, Y: []int{4, 5, 6}}, api.ErrOrder},
		// Point by point: the range of a point before its order, both before the next point.
		{api.Curve{X: []int{0, -most - 1}, Y: []int{0, 1}}, api.ErrRange},
		{api.Curve{X: []int{0, 1}, Y: []int{0, -most - 1}}, api.ErrRange},
		{api.Curve{X: []int{0, 0, 1}, Y: []int{0, 1, most + 1}}, api.ErrOrder},
		{api.Curve{X: []int{0, 1, most + 1}, Y: []int{1, 0, 1}}, api.ErrOrder},
		{api.Curve{X: []int{most + 1, 0}, Y: []int{0, 1}}, api.ErrRange},
		{api.Curve{X: []int{0, 1}, Y: []int{most + 1, 0}}, api.ErrRange},
	}
	return append(list, curvesWithOneFault()...)
}

// curvesWithOneFault are curves of 2, 5 and 32 points, each with one coordinate out of its range or one pair of points out of its order.
func curvesWithOneFault() []refused {
	var list []refused
	for _, n := range []int{2, 5, 32} {
		for i := range n {
			for _, x := range outsides {
				c := api.Curve{X: line(n), Y: line(n)}
				c.X[i] = x
				list = append(list, refused{c, api.ErrRange})
				c = api.Curve{X: line(n), Y: line(n)}
				c.Y[i] = x
				list = append(list, refused{c, api.ErrRange})
			}
			if i > 0 {
				c := api.Curve{X: line(n), Y: line(n)}
				c.X[i] = i - 1
				list = append(list, refused{c, api.ErrOrder})
				c = api.Curve{X: line(n), Y: line(n)}
				c.Y[i] = i - 2
				list = append(list, refused{c, api.ErrOrder})
			}
		}
	}
	return list
}

func isEmpty(c api.Curve) bool {
	return len(c.X) == 0 && len(c.Y) == 0
}

func refuse(t *testing.T, zero bool, err, want error, name string, args ...any) {
	t.Helper()
	if !zero || err != want {
		t.Errorf("%s(%v): %v, not %v", name, args, err, want)
	}
}

func refuseInverse(t *testing.T, c api.Curve, y int, want error) {
	t.Helper()
	x, err := Inverse(c, y)
	refuse(t, x == 0, err, want, "Inverse", c, y)
}

func refuseScale(t *testing.T, c api.Curve, num int, want error) {
	t.Helper()
	s, err := Scale(c, num)
	refuse(t, isEmpty(s), err, want, "Scale", c, num)
}

func refuseBelow(t *testing.T, a, b api.Curve, want error) {
	t.Helper()
	below, err := Below(a, b)
	refuse(t, !below, err, want, "Below", a, b)
}

func refuseOdd(t *testing.T, x, y []int, want error) {
	t.Helper()
	c, err := Odd(x, y)
	refuse(t, isEmpty(c), err, want, "Odd", x, y)
}

func TestCurvesAreRefused(t *testing.T) {
	for _, r := range refusedCurves() {
		if err := Check(r.c); err != r.want {
			t.Errorf("Check(%v) = %v, not %v", r.c, err, r.want)
		}
		for _, x := range []int{math.MinInt, -1, 0, 1, 1 << 17, math.MaxInt} {
			y, err := At(r.c, x)
			refuse(t, y == 0, err, r.want, "At", r.c, x)
			y, err = Steepest(r.c, x)
			refuse(t, y == 0, err, r.want, "Steepest", r.c, x)
			refuseInverse(t, r.c, x, r.want)
			refuseScale(t, r.c, x, r.want)
		}
		refuseBelow(t, r.c, made(), r.want)
		refuseBelow(t, made(), r.c, r.want)
		for _, b := range []refused{{api.Curve{}, api.ErrShape}, {api.Curve{X: line(33), Y: line(33)}, api.ErrLarge}} {
			refuseBelow(t, r.c, b.c, r.want)
			refuseBelow(t, b.c, r.c, b.want)
		}
	}
}

func TestGreatestNumbersOfPoints(t *testing.T) {
	if MaxPoints != 32 {
		t.Errorf("MaxPoints is %d", MaxPoints)
	}
	if err := Check(api.Curve{X: line(32), Y: line(32)}); err != nil {
		t.Errorf("32 points: %v", err)
	}
	if c, err := Odd(line(16)[1:], line(15)); len(c.X) != 31 || err != nil {
		t.Errorf("odd, with 15 points: %v, %v", c, err)
	}
}

func TestValuesAboveTheCurveAreRefused(t *testing.T) {
	for _, c := range append(small(), curves(11)...) {
		last := c.Y[len(c.Y)-1]
		for _, y := range []int{last + 1, last + 2, last + 1<<32, math.MaxInt} {
			refuseInverse(t, c, y, api.ErrRange)
		}
	}
}

func TestFactorsAreRefused(t *testing.T) {
	zero := api.Curve{X: []int{0, 1}, Y: []int{0, 0}}
	for _, num := range []int{math.MinInt, -1 << 32, -65536, -1, 1<<17 + 1, 1 << 32, 1<<32 + 1, math.MaxInt} {
		refuseScale(t, made(), num, api.ErrRange)
		refuseScale(t, zero, num, api.ErrRange)
	}
	for _, c := range []struct {
		y   []int
		num int
	}{
		{[]int{-5, 0, most/2 + 1}, 1 << 17},
		{[]int{-most/2 - 1, 0, 6}, 1 << 17},
		{[]int{-5, 0, most}, 1<<16 + 1},
		{[]int{-most, -most, -most}, 1<<16 + 1},
		{[]int{0, 0, 1073725442}, 1<<16 + 1},
	} {
		refuseScale(t, api.Curve{X: []int{0, 1, 2}, Y: c.y}, c.num, api.ErrRange)
	}
}

func TestPointsOfOddCurvesAreRefused(t *testing.T) {
	for _, c := range []struct {
		x, y []int
		want error
	}{
		{nil, nil, api.ErrShape},
		{[]int{}, []int{}, api.ErrShape},
		{[]int{1}, nil, api.ErrShape},
		{nil, []int{1}, api.ErrShape},
		{[]int{0}, []int{-1, 2}, api.ErrShape},
		{line(17)[1:], line(17), api.ErrShape},
		{line(17)[1:], line(16), api.ErrLarge},
		{make([]int, 16), make([]int, 16), api.ErrLarge},
		{make([]int, 100), make([]int, 100), api.ErrLarge},
		{[]int{0}, []int{0}, api.ErrForm},
		{[]int{-1}, []int{1}, api.ErrForm},
		{[]int{1}, []int{-1}, api.ErrForm},
		{[]int{math.MinInt}, []int{0}, api.ErrForm},
		{[]int{1}, []int{math.MinInt}, api.ErrForm},
		{[]int{1, 2, 0}, []int{0, 1, 2}, api.ErrForm},
		{[]int{1, 2, 3}, []int{0, 1, -1}, api.ErrForm},
		// All points are greater than 0 before one is checked with the others.
		{[]int{5, 4, 0}, []int{0, 1, 2}, api.ErrForm},
		{[]int{most + 1, 1}, []int{0, -1}, api.ErrForm},
		{[]int{2, 1}, []int{1, 1}, api.ErrOrder},
		{[]int{2, 2}, []int{1, 1}, api.ErrOrder},
		{[]int{1, 2}, []int{2, 1}, api.ErrOrder},
		{[]int{most + 1}, []int{0}, api.ErrRange},
		{[]int{1}, []int{most + 1}, api.ErrRange},
		{[]int{math.MaxInt}, []int{math.MaxInt}, api.ErrRange},
		// The curve begins with the mirror image of the last point.
		{[]int{2, 1, most + 1}, []int{0, 0, 0}, api.ErrRange},
		{[]int{most + 1, 2, 1}, []int{0, 0, 0}, api.ErrOrder},
		{[]int{most + 1, 1}, []int{0, 0}, api.ErrRange},
	} {
		refuseOdd(t, c.x, c.y, c.want)
	}
}

// Rule 3 of the document: arguments stay as they are, and results are new memory.
func TestMemory(t *testing.T) {
	for _, c := range append(curves(12), refusedCurves()[0].c) {
		before := copied(c)
		At(c, 5)
		Inverse(c, 5)
		Steepest(c, 5)
		Below(c, c)
		s, err := Scale(c, 1<<16)
		if err == nil {
			s.X[0], s.Y[0] = 77, 77
		}
		if !same(c, before) {
			t.Fatalf("%v became %v", before, c)
		}
	}
	x, y := []int{2, 5}, []int{1, 7}
	c, err := Odd(x, y)
	if err != nil {
		t.Fatal(err)
	}
	c.X[3], c.Y[3] = 3, 3
	if !slices.Equal(x, []int{2, 5}) || !slices.Equal(y, []int{1, 7}) {
		t.Errorf("%v, %v changed", x, y)
	}
}

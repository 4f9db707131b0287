package interval

import (
	"math"
	"slices"
	"testing"

	"commutator/api"
	"commutator/dyadic"
)

// P3.1: every function returns what is specified. The intervals have ends that are multiples of a unit, so that the results follow from all ints in them.

func TestValid(t *testing.T) {
	for _, unit := range units() {
		for lo := -4; lo <= 4; lo++ {
			for hi := -4; hi <= 4; hi++ {
				if Valid(span{lo, hi}.times(unit)) != (lo <= hi) {
					t.Errorf("Valid of %d..%d, times %v", lo, hi, unit)
				}
			}
		}
	}
	for _, a := range invalid() {
		if Valid(a) {
			t.Errorf("%v is valid", a)
		}
	}
	if !Valid(api.Interval{}) || !Valid(api.Interval{Lo: api.Dyadic{Words: []uint32{}}}) {
		t.Error("0..0 is not valid")
	}
}

func TestMakeAndPoint(t *testing.T) {
	for _, unit := range units() {
		for lo := -4; lo <= 4; lo++ {
			for hi := -4; hi <= 4; hi++ {
				got, err := Make(times(lo, unit), times(hi, unit))
				if lo > hi {
					refuse(t, "Make", got, err, api.ErrRange, lo, hi, unit)
					continue
				}
				expect(t, "Make", got, span{lo, hi}.times(unit), lo, hi, unit)
				if err != nil {
					t.Errorf("Make of %d and %d, times %v: %v", lo, hi, unit, err)
				}
			}
			expect(t, "Point", Point(times(lo, unit)), span{lo, lo}.times(unit), lo, unit)
		}
	}
}

func TestInts(t *testing.T) {
	list := []int{0, 1, -1, 7, -12, 1 << 32, -1 << 32, math.MaxInt, math.MaxInt - 1, math.MinInt, math.MinInt + 1}
	for _, lo := range list {
		for _, hi := range list {
			want := api.Interval{Lo: dyadic.Of(min(lo, hi)), Hi: dyadic.Of(max(lo, hi))}
			expect(t, "Ints", Ints(lo, hi), want, lo, hi)
		}
	}
}

func TestNegAndAbs(t *testing.T) {
	for _, unit := range units() {
		for _, a := range spans() {
			neg := images(a, func(x int) int { return -x })
			expect(t, "Neg", Neg(a.times(unit)), neg.times(unit), a, unit)
			abs := images(a, func(x int) int { return max(x, -x) })
			expect(t, "Abs", Abs(a.times(unit)), abs.times(unit), a, unit)
		}
	}
}

func TestPairs(t *testing.T) {
	for _, unit := range units() {
		for _, a := range spans() {
			for _, b := range spans() {
				checkPair(t, a, b, unit)
			}
		}
	}
}

func checkPair(t *testing.T, a, b span, unit api.Dyadic) {
	x, y := a.times(unit), b.times(unit)
	sum := pairImages(a, b, func(x, y int) int { return x + y })
	expect(t, "Add", Add(x, y), sum.times(unit), a, b, unit)
	difference := pairImages(a, b, func(x, y int) int { return x - y })
	expect(t, "Sub", Sub(x, y), difference.times(unit), a, b, unit)
	product := pairImages(a, b, func(x, y int) int { return x * y })
	expect(t, "Mul", Mul(x, y), product.times(dyadic.Mul(unit, unit)), a, b, unit)
	lesser := pairImages(a, b, func(x, y int) int { return min(x, y) })
	expect(t, "Min", Min(x, y), lesser.times(unit), a, b, unit)
	greater := pairImages(a, b, func(x, y int) int { return max(x, y) })
	expect(t, "Max", Max(x, y), greater.times(unit), a, b, unit)
	hull := span{min(a.lo, b.lo), max(a.hi, b.hi)}
	expect(t, "Hull", Hull(x, y), hull.times(unit), a, b, unit)
	checkMeet(t, a, b, unit)
	if Inside(x, y) != (b.lo <= a.lo && a.hi <= b.hi) {
		t.Fatalf("Inside of %v and %v, times %v", a, b, unit)
	}
}

func checkMeet(t *testing.T, a, b span, unit api.Dyadic) {
	var both []int
	for x := a.lo; x <= a.hi; x++ {
		if b.lo <= x && x <= b.hi {
			both = append(both, x)
		}
	}
	got, err := Meet(a.times(unit), b.times(unit))
	if len(both) == 0 {
		refuse(t, "Meet", got, err, api.ErrInfeasible, a, b, unit)
		return
	}
	expect(t, "Meet", got, span{slices.Min(both), slices.Max(both)}.times(unit), a, b, unit)
	if err != nil {
		t.Fatalf("Meet of %v and %v, times %v: %v", a, b, unit, err)
	}
}

func TestScale(t *testing.T) {
	for _, unit := range units() {
		for _, a := range spans() {
			for f := -4; f <= 4; f++ {
				want := images(a, func(x int) int { return x * f })
				expect(t, "Scale", Scale(a.times(unit), times(f, unit)), want.times(dyadic.Mul(unit, unit)), a, f, unit)
			}
		}
	}
}

func TestWiden(t *testing.T) {
	for _, unit := range units() {
		for _, a := range spans() {
			for by := -3; by <= 5; by++ {
				got, err := Widen(a.times(unit), times(by, unit))
				if by < 0 {
					refuse(t, "Widen", got, err, api.ErrRange, a, by, unit)
					continue
				}
				expect(t, "Widen", got, span{a.lo - by, a.hi + by}.times(unit), a, by, unit)
				if err != nil {
					t.Fatalf("Widen of %v by %d, times %v: %v", a, by, unit, err)
				}
			}
		}
	}
}

func TestClip(t *testing.T) {
	for _, unit := range units() {
		for _, a := range spans() {
			for lo := -5; lo <= 5; lo++ {
				for hi := -5; hi <= 5; hi++ {
					got, err := Clip(a.times(unit), times(lo, unit), times(hi, unit))
					if lo > hi {
						refuse(t, "Clip", got, err, api.ErrRange, a, lo, hi, unit)
						continue
					}
					want := images(a, func(x int) int { return min(max(x, lo), hi) })
					expect(t, "Clip", got, want.times(unit), a, lo, hi, unit)
					if err != nil {
						t.Fatalf("Clip of %v to %d..%d, times %v: %v", a, lo, hi, unit, err)
					}
				}
			}
		}
	}
}

func TestRound(t *testing.T) {
	for lo := -40; lo <= 40; lo++ {
		for hi := lo; hi <= 40; hi += 3 {
			for den := range 6 {
				got, err := Round(span{lo, hi}.times(number(1, 3)), den)
				// An int shifted to the right is rounded down.
				cut := max(3-den, 0)
				want := span{lo >> cut, -(-hi >> cut)}
				expect(t, "Round", got, want.times(number(1, min(den, 3))), lo, hi, den)
				if err != nil {
					t.Fatalf("Round of %d/8..%d/8 to %d: %v", lo, hi, den, err)
				}
			}
		}
	}
}

func TestRoundToTheEndsOfTheGrids(t *testing.T) {
	a := span{-3, 5}.times(number(1, api.MaxDen))
	for _, x := range []struct {
		den  int
		want api.Interval
	}{{api.MaxDen, a}, {api.MaxDen - 1, span{-2, 3}.times(number(1, api.MaxDen-1))}, {0, Ints(-1, 1)}} {
		got, err := Round(a, x.den)
		expect(t, "Round", got, x.want, x.den)
		if err != nil {
			t.Errorf("Round to %d: %v", x.den, err)
		}
	}
	for _, b := range append(invalid(), a, api.Interval{}) {
		for _, den := range []int{-1, math.MinInt, api.MaxDen + 1, math.MaxInt} {
			got, err := Round(b, den)
			refuse(t, "Round", got, err, api.ErrRange, b, den)
		}
	}
}

func TestContains(t *testing.T) {
	tiny := number(1, api.MaxDen)
	for _, unit := range units() {
		for _, a := range spans() {
			x := a.times(unit)
			for n := -6; n <= 6; n++ {
				if Contains(x, times(n, unit)) != (a.lo <= n && n <= a.hi) {
					t.Fatalf("Contains of %v and %d, times %v", a, n, unit)
				}
			}
			if Contains(x, dyadic.Sub(x.Lo, tiny)) || Contains(x, dyadic.Add(x.Hi, tiny)) {
				t.Fatalf("%v, times %v, contains a number next to its ends", a, unit)
			}
		}
	}
}

func TestWidthAndMag(t *testing.T) {
	for _, unit := range units() {
		for _, a := range spans() {
			if got := Width(a.times(unit)); !sameNumber(got, times(a.hi-a.lo, unit)) {
				t.Errorf("Width of %v, times %v: %v", a, unit, got)
			}
			if got := Mag(a.times(unit)); !sameNumber(got, times(max(-a.lo, a.hi), unit)) {
				t.Errorf("Mag of %v, times %v: %v", a, unit, got)
			}
		}
	}
}

func TestText(t *testing.T) {
	for _, x := range []struct {
		a    api.Interval
		want string
	}{
		{api.Interval{}, "[0, 0]"},
		{Ints(-2, 3), "[-2, 3]"},
		{span{-3, -1}.times(number(1, 4)), "[-3/2^4, -1/2^4]"},
		{Point(dyadic.Shift(dyadic.Of(1), 70)), "[1180591620717411303424, 1180591620717411303424]"},
		{api.Interval{Lo: number(-1, api.MaxDen), Hi: dyadic.Of(math.MaxInt)}, "[-1/2^65536, 9223372036854775807]"},
	} {
		if got := Text(x.a); got != x.want {
			t.Errorf("Text of %v is %s, not %s", x.a, got, x.want)
		}
	}
}

// The least interval that contains some numbers is found for any number of them, in any order.
func TestLeast(t *testing.T) {
	a, b, c, d := dyadic.Of(-7), number(-1, 1), dyadic.Of(0), number(9, 2)
	for _, x := range []struct {
		got, want api.Interval
	}{
		{least(d), api.Interval{Lo: d, Hi: d}},
		{least(d, a), api.Interval{Lo: a, Hi: d}},
		{least(b, b, b), api.Interval{Lo: b, Hi: b}},
		{least(c, b, d), api.Interval{Lo: b, Hi: d}},
		{least(b, d, a, c), api.Interval{Lo: a, Hi: d}},
		{least(c, c, b, a, b, c), api.Interval{Lo: a, Hi: c}},
	} {
		expect(t, "least", x.got, x.want)
	}
}

func TestExamplesOfTheChapter(t *testing.T) {
	expect(t, "Mul", Mul(Ints(-2, 3), Ints(-1, 4)), Ints(-8, 12))
	expect(t, "Abs", Abs(Ints(-5, 2)), Ints(0, 5))
	clipped, err := Clip(Ints(-5, 2), dyadic.Of(0), dyadic.Of(1))
	expect(t, "Clip", clipped, Ints(0, 1))
	if err != nil {
		t.Errorf("Clip: %v", err)
	}
	expect(t, "Scale", Scale(Ints(1, 2), number(-1, 1)), span{-2, -1}.times(number(1, 1)))
}

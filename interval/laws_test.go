package interval

import (
	"slices"
	"testing"

	"commutator/api"
	"commutator/dyadic"
)

// operationOfNumbers is an operation of intervals, and what it does with two numbers.
type operationOfNumbers struct {
	name      string
	intervals func(a, b api.Interval) api.Interval
	numbers   func(x, y api.Dyadic) api.Dyadic
}

// low and high are the ends to which Clip moves numbers here.
func low() api.Dyadic  { return dyadic.Of(-1 << 40) }
func high() api.Dyadic { return number(1, 3) }

func operationsOfNumbers() []operationOfNumbers {
	return []operationOfNumbers{
		{"Neg", func(a, b api.Interval) api.Interval { return Neg(a) }, func(x, y api.Dyadic) api.Dyadic { return dyadic.Neg(x) }},
		{"Abs", func(a, b api.Interval) api.Interval { return Abs(a) }, func(x, y api.Dyadic) api.Dyadic { return dyadic.Abs(x) }},
		{"Add", Add, dyadic.Add},
		{"Sub", Sub, dyadic.Sub},
		{"Mul", Mul, dyadic.Mul},
		{"Min", Min, dyadic.Min},
		{"Max", Max, dyadic.Max},
		{"Scale", func(a, b api.Interval) api.Interval { return Scale(a, low()) }, func(x, y api.Dyadic) api.Dyadic { return dyadic.Mul(x, low()) }},
		{"Clip", func(a, b api.Interval) api.Interval {
			clipped, _ := Clip(a, low(), high())
			return clipped
		}, func(x, y api.Dyadic) api.Dyadic { return dyadic.Min(dyadic.Max(x, low()), high()) }},
	}
}

// P3.2: the result contains the results of all numbers, and its ends are among these.
func TestOperationsContainAndAttain(t *testing.T) {
	list := someIntervals(70)
	for _, op := range operationsOfNumbers() {
		for _, a := range list {
			for _, b := range list {
				checkContains(t, op, a, b)
			}
		}
	}
}

func checkContains(t *testing.T, op operationOfNumbers, a, b api.Interval) {
	result := op.intervals(a, b)
	if !Valid(result) {
		t.Fatalf("%s of %v and %v is not valid: %v", op.name, a, b, result)
	}
	lower, upper := false, false
	for _, x := range points(a) {
		for _, y := range points(b) {
			z := op.numbers(x, y)
			if dyadic.Cmp(result.Lo, z) > 0 || dyadic.Cmp(z, result.Hi) > 0 {
				t.Fatalf("%s of %v and %v: %v does not contain the result of %v and %v", op.name, a, b, result, x, y)
			}
			lower = lower || sameNumber(z, result.Lo)
			upper = upper || sameNumber(z, result.Hi)
		}
	}
	if !lower || !upper {
		t.Fatalf("%s of %v and %v: an end of %v is not attained", op.name, a, b, result)
	}
}

// widened returns intervals that contain a, a itself among them.
func widened(a api.Interval) []api.Interval {
	return []api.Interval{
		a,
		{Lo: dyadic.Sub(a.Lo, number(1, 90)), Hi: a.Hi},
		{Lo: a.Lo, Hi: dyadic.Add(a.Hi, dyadic.Of(7))},
		{Lo: dyadic.Min(a.Lo, dyadic.Of(-1)), Hi: dyadic.Max(a.Hi, dyadic.Of(1))},
	}
}

// P3.3: with arguments that lie inside others, the result lies inside the other result.
func TestOperationsAreMonotone(t *testing.T) {
	list := someIntervals(40)
	for _, op := range operationsOfNumbers() {
		for _, a := range list {
			for _, b := range list {
				result := op.intervals(a, b)
				for _, moreA := range widened(a) {
					for _, moreB := range widened(b) {
						if more := op.intervals(moreA, moreB); !Inside(result, more) {
							t.Fatalf("%s of %v and %v is not inside that of %v and %v", op.name, a, b, moreA, moreB)
						}
					}
				}
			}
		}
	}
}

func TestLimitsAreMonotone(t *testing.T) {
	for _, a := range someIntervals(60) {
		for _, more := range widened(a) {
			if dyadic.Cmp(Width(a), Width(more)) > 0 || dyadic.Cmp(Mag(a), Mag(more)) > 0 {
				t.Fatalf("Width or Mag of %v and %v", a, more)
			}
			for _, den := range []int{0, 1, 64, 90, 400} {
				round, _ := Round(a, den)
				roundMore, _ := Round(more, den)
				if !Inside(a, round) || !Inside(round, roundMore) {
					t.Fatalf("Round of %v and %v to %d", a, more, den)
				}
			}
			for n := range 3 {
				wide, _ := Widen(a, dyadic.Of(n))
				wideMore, _ := Widen(more, dyadic.Of(n+1))
				if !Inside(a, wide) || !Inside(wide, wideMore) {
					t.Fatalf("Widen of %v and %v by %d", a, more, n)
				}
			}
		}
	}
}

// P3.4: Inside is an order, of which Hull is the least upper bound and Meet the greatest lower bound.
func TestOrderOfIntervals(t *testing.T) {
	list := orderedIntervals()
	for _, a := range list {
		for _, b := range list {
			if (Inside(a, b) && Inside(b, a)) != same(a, b) {
				t.Fatalf("Inside is no order of %v and %v", a, b)
			}
			for _, c := range list {
				if Inside(a, b) && Inside(b, c) && !Inside(a, c) {
					t.Fatalf("Inside is not transitive: %v, %v and %v", a, b, c)
				}
			}
		}
	}
}

func TestHullIsTheLeastUpperBound(t *testing.T) {
	list := orderedIntervals()
	for _, a := range list {
		for _, b := range list {
			hull := Hull(a, b)
			if !Inside(a, hull) || !Inside(b, hull) {
				t.Fatalf("Hull of %v and %v: %v", a, b, hull)
			}
			for _, c := range list {
				if (Inside(a, c) && Inside(b, c)) != Inside(hull, c) {
					t.Fatalf("Hull of %v and %v: %v and %v", a, b, hull, c)
				}
			}
		}
	}
}

func TestMeetIsTheGreatestLowerBound(t *testing.T) {
	list := orderedIntervals()
	for _, a := range list {
		for _, b := range list {
			meet, err := Meet(a, b)
			if err == nil && !(Inside(meet, a) && Inside(meet, b)) {
				t.Fatalf("Meet of %v and %v: %v", a, b, meet)
			}
			for _, c := range list {
				if (Inside(c, a) && Inside(c, b)) != (err == nil && Inside(c, meet)) {
					t.Fatalf("Meet of %v and %v: %v, %v and %v", a, b, meet, err, c)
				}
			}
		}
	}
}

// orderedIntervals are intervals of which many lie inside others.
func orderedIntervals() []api.Interval {
	var list []api.Interval
	for i, a := range spans() {
		if i%3 == 0 {
			list = append(list, a.times(number(3, 40)))
		}
	}
	for _, a := range someIntervals(12) {
		list = append(list, widened(a)...)
	}
	slices.SortFunc(list, func(a, b api.Interval) int {
		if lower := dyadic.Cmp(a.Lo, b.Lo); lower != 0 {
			return lower
		}
		return dyadic.Cmp(a.Hi, b.Hi)
	})
	return slices.CompactFunc(list, same)
}

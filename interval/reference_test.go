package interval

import (
	"math/rand"
	"slices"
	"testing"

	"commutator/api"
	"commutator/dyadic"
)

// span is an interval of ints. With a unit, it stands for the interval lo * unit..hi * unit.
type span struct{ lo, hi int }

// spans are all intervals whose ends are among -4 to 4.
func spans() []span {
	var list []span
	for lo := -4; lo <= 4; lo++ {
		for hi := lo; hi <= 4; hi++ {
			list = append(list, span{lo, hi})
		}
	}
	return list
}

// images returns the least span that contains f of each int in a.
func images(a span, f func(x int) int) span {
	image := span{f(a.lo), f(a.lo)}
	for x := a.lo; x <= a.hi; x++ {
		image = span{min(image.lo, f(x)), max(image.hi, f(x))}
	}
	return image
}

// pairImages returns the least span that contains f of each int in a and each int in b.
func pairImages(a, b span, f func(x, y int) int) span {
	image := span{f(a.lo, b.lo), f(a.lo, b.lo)}
	for x := a.lo; x <= a.hi; x++ {
		part := images(b, func(y int) int { return f(x, y) })
		image = span{min(image.lo, part.lo), max(image.hi, part.hi)}
	}
	return image
}

// number returns n / 2^den.
func number(n, den int) api.Dyadic {
	a, err := dyadic.Make(n, den)
	if err != nil {
		panic(err)
	}
	return a
}

// units are positive numbers of one word and of many, on coarse grids and on fine ones.
func units() []api.Dyadic {
	long := dyadic.Add(dyadic.Shift(dyadic.Of(5), 200), dyadic.Of(1))
	return []api.Dyadic{dyadic.Of(1), number(1, 1), number(3, 70), dyadic.Of(1 << 61), long, dyadic.Shift(long, -100), number(1, api.MaxDen/2), dyadic.Shift(long, -api.MaxDen/2)}
}

func times(n int, unit api.Dyadic) api.Dyadic {
	return dyadic.Mul(dyadic.Of(n), unit)
}

func (a span) times(unit api.Dyadic) api.Interval {
	return api.Interval{Lo: times(a.lo, unit), Hi: times(a.hi, unit)}
}

func sameNumber(a, b api.Dyadic) bool {
	return a.Neg == b.Neg && a.Den == b.Den && slices.Equal(a.Words, b.Words)
}

func same(a, b api.Interval) bool {
	return sameNumber(a.Lo, b.Lo) && sameNumber(a.Hi, b.Hi)
}

func expect(t *testing.T, name string, got, want api.Interval, args ...any) {
	t.Helper()
	if !same(got, want) {
		t.Fatalf("%s of %v is %v, not %v", name, args, got, want)
	}
}

// refuse reports a call that does not return the error, or returns something else with it.
func refuse(t *testing.T, name string, got api.Interval, err error, want error, args ...any) {
	t.Helper()
	if !same(got, api.Interval{}) || err != want {
		t.Fatalf("%s of %v: %v, %v, not %v", name, args, got, err, want)
	}
}

// someIntervals are intervals with ends of many lengths: single numbers, and intervals below, around and above 0.
func someIntervals(count int) []api.Interval {
	r := rand.New(rand.NewSource(int64(count)))
	list := []api.Interval{{}, {Lo: dyadic.Of(-1), Hi: dyadic.Of(1)}}
	for len(list) < count {
		a, b := randomNumber(r), randomNumber(r)
		if r.Intn(8) == 0 {
			b = a
		}
		list = append(list, api.Interval{Lo: dyadic.Min(a, b), Hi: dyadic.Max(a, b)})
	}
	return list
}

func randomNumber(r *rand.Rand) api.Dyadic {
	a := dyadic.Of(int(r.Uint64()) >> r.Intn(64))
	for range r.Intn(4) {
		a = dyadic.Add(dyadic.Shift(a, 64), dyadic.Of(r.Int()))
	}
	return dyadic.Shift(a, r.Intn(200)-150)
}

// points are numbers in a, with its ends, and 0 if a contains it.
func points(a api.Interval) []api.Dyadic {
	list := []api.Dyadic{a.Lo, a.Hi}
	width := dyadic.Sub(a.Hi, a.Lo)
	for _, n := range []int{1, 3, 4, 1<<20 - 1} {
		list = append(list, dyadic.Add(a.Lo, dyadic.Mul(width, number(n, 20))))
	}
	if dyadic.Sign(a.Lo) <= 0 && dyadic.Sign(a.Hi) >= 0 {
		list = append(list, api.Dyadic{})
	}
	return list
}

// invalid are intervals that are not valid: ends that are no numbers, and ends in the wrong order.
func invalid() []api.Interval {
	list := []api.Interval{
		{Lo: dyadic.Of(1), Hi: dyadic.Of(0)},
		{Lo: dyadic.Of(0), Hi: dyadic.Of(-1)},
		{Lo: number(3, 1), Hi: number(3, 2)},
		{Lo: dyadic.Of(1)},
	}
	for _, x := range invalidNumbers() {
		list = append(list, api.Interval{Lo: x, Hi: x}, api.Interval{Lo: x, Hi: dyadic.Of(5)}, api.Interval{Lo: dyadic.Of(-5), Hi: x})
	}
	return list
}

// invalidNumbers are numbers that are not valid: they count as 0, whatever their fields seem to say.
func invalidNumbers() []api.Dyadic {
	return []api.Dyadic{
		{Words: []uint32{3, 0}},
		{Words: []uint32{4}, Den: 1},
		{Neg: true},
		{Neg: true, Words: []uint32{7, 0}},
		{Den: 1},
		{Words: []uint32{9}, Den: -1},
		{Neg: true, Words: []uint32{9}, Den: api.MaxDen + 1},
	}
}

package scales

import (
	"math"
	"math/rand"
	"slices"
	"testing"

	"commutator/api"
	"commutator/dyadic"
	"commutator/interval"
)

// P13.1 for arguments that are refused, for the order of errors, and for the memory of arguments and results.

// call has the arguments of all functions.
type call struct {
	d api.Diagram
	r []api.Interval
	f []int
}

func good() call {
	r := []api.Interval{interval.Ints(-3, 5), interval.Ints(-1, 1), interval.Ints(0, 1024), interval.Ints(-7, -7), {}}
	return call{sample(), r, []int{2, 30, 20, 27, 0}}
}

// results are the errors of Choose and Uniform, of Fits, and of Shifts.
type results struct{ choose, fits, shifts error }

func (c call) check(t *testing.T, name string, want results) {
	t.Helper()
	for _, choose := range []func(api.Diagram, []api.Interval) ([]int, error){Choose, Uniform} {
		if f, err := choose(c.d, c.r); (err != nil) != (len(f) == 0) || err != want.choose {
			t.Errorf("%s: Choose or Uniform = %v, %v, not %v", name, f, err, want.choose)
		}
	}
	if is, err := Fits(c.d, c.r, c.f); err != nil && is || err != want.fits {
		t.Errorf("%s: Fits = %v, %v, not %v", name, is, err, want.fits)
	}
	if n, err := Shifts(c.d, c.f); err != nil && n != 0 || err != want.shifts {
		t.Errorf("%s: Shifts = %v, %v, not %v", name, n, err, want.shifts)
	}
}

type fault struct {
	name string
	make func(c *call)
	want results
}

func (f fault) in(c call) call {
	c.d = copied(c.d)
	f.make(&c)
	return c
}

// before returns what is wrong if there is also another fault that is found later.
func (r results) before(other results) results {
	if r.choose == nil {
		r.choose = other.choose
	}
	if r.fits == nil {
		r.fits = other.fits
	}
	if r.shifts == nil {
		r.shifts = other.shifts
	}
	return r
}

// diagramFaults has each error of layer 10.
func diagramFaults() []fault {
	var list []fault
	add := func(name string, want error, change func(d *api.Diagram)) {
		list = append(list, fault{name, func(c *call) { change(&c.d) }, results{want, want, want}})
	}
	add("many inputs", api.ErrLarge, func(d *api.Diagram) { d.Inputs = make([]api.Port, 17) })
	add("many outputs", api.ErrLarge, func(d *api.Diagram) { d.Outputs = make([]int, 17) })
	add("port", api.ErrRange, func(d *api.Diagram) { d.Inputs[0].Frac = 31 })
	add("bounds of a port", api.ErrRange, func(d *api.Diagram) { d.Inputs[0].Lo = 10 })
	add("kind", api.ErrType, func(d *api.Diagram) { d.Blocks[0].Kind = 12 })
	add("arguments", api.ErrShape, func(d *api.Diagram) { d.Blocks[0].Args = nil })
	add("argument", api.ErrIndex, func(d *api.Diagram) { d.Blocks[1].Args[0] = 5 })
	add("port of a block", api.ErrIndex, func(d *api.Diagram) { d.Blocks[0].Args[0] = 1 })
	add("scalar", api.ErrRange, func(d *api.Diagram) { d.Blocks[3].Value.Exp = 31 })
	add("unused scalar", api.ErrForm, func(d *api.Diagram) { d.Blocks[3].Upper.Exp = 1 })
	add("clip", api.ErrOrder, func(d *api.Diagram) {
		d.Blocks[1] = api.Block{Kind: api.BlockClip, Args: []int{3}, Value: api.Scalar{Num: 1}}
	})
	add("output", api.ErrIndex, func(d *api.Diagram) { d.Outputs[0] = -1 })
	add("circle", api.ErrCycle, func(d *api.Diagram) { d.Blocks[1].Args[0] = 2 })
	return list
}

func wrongIntervals() []api.Interval {
	var list []api.Interval
	for _, x := range []api.Dyadic{
		{Neg: true},
		{Den: 1},
		{Words: []uint32{0}},
		{Words: []uint32{1, 0}},
		{Words: []uint32{2}, Den: 1},
		{Words: []uint32{1}, Den: -1},
		{Words: []uint32{1}, Den: api.MaxDen + 1},
		{Words: make([]uint32, 1000)},
		{Den: math.MinInt},
		{Words: []uint32{1}, Den: math.MaxInt},
	} {
		list = append(list, api.Interval{Lo: x}, api.Interval{Hi: x}, api.Interval{Lo: x, Hi: x})
	}
	return append(list,
		api.Interval{Lo: dyadic.Of(1)},
		api.Interval{Hi: dyadic.Of(-1)},
		api.Interval{Lo: dyadic.Of(3), Hi: dyadic.Of(2)},
		api.Interval{Lo: dyadic.Of(1 << 40), Hi: dyadic.Of(1<<40 - 1)},
	)
}

// with returns a list that may be too short for it with x as element i.
func with[T any](list []T, i int, x T) []T {
	list = slices.Clone(list)
	if i < len(list) {
		list[i] = x
	}
	return list
}

// rangeFaults are the things that are wrong with ranges and scales, in the order in which they are found.
func rangeFaults() []fault {
	var list []fault
	shape, form, large := results{choose: api.ErrShape, fits: api.ErrShape}, results{choose: api.ErrForm, fits: api.ErrForm}, results{choose: api.ErrLarge}
	for _, n := range []int{0, 1, 4, 6, 64, 1000} {
		list = append(list, fault{"number of ranges", func(c *call) { c.r = make([]api.Interval, n) }, shape})
	}
	for i := range good().r {
		for _, x := range wrongIntervals() {
			list = append(list, fault{"range", func(c *call) { c.r = with(c.r, i, x) }, form})
		}
	}
	for _, n := range []int{0, 1, 4, 6, 64, 1000} {
		list = append(list, fault{"number of scales", func(c *call) { c.f = make([]int, n) }, results{fits: api.ErrShape, shifts: api.ErrShape}})
	}
	for i := range good().r {
		for _, x := range []api.Interval{interval.Ints(0, 1<<30+1), interval.Ints(-1<<31, 0), interval.Ints(1<<62, math.MaxInt)} {
			list = append(list, fault{"great range", func(c *call) { c.r = with(c.r, i, x) }, large})
		}
	}
	return list
}

func TestGoodCallIsAccepted(t *testing.T) {
	c := good()
	c.check(t, "a good call", results{})
	if is, err := Fits(c.d, c.r, c.f); !is || err != nil {
		t.Errorf("a good call fits: %v, %v", is, err)
	}
}

func TestFaults(t *testing.T) {
	for _, f := range slices.Concat(diagramFaults(), rangeFaults()) {
		f.in(good()).check(t, f.name, f.want)
	}
}

func TestDiagramFaultsComeFirst(t *testing.T) {
	for _, f := range diagramFaults() {
		for _, g := range rangeFaults() {
			g.in(f.in(good())).check(t, f.name+" before "+g.name, f.want)
		}
	}
}

// With two faults the one that is found first counts.
func TestOrderOfFaults(t *testing.T) {
	list := rangeFaults()
	for i, f := range list {
		for _, g := range list[i+1:] {
			if g.name == f.name {
				continue
			}
			// The later fault is made first, so that the earlier one is not undone.
			f.in(g.in(good())).check(t, f.name+" before "+g.name, f.want.before(g.want))
		}
	}
}

// A range that is not valid is refused also behind one that is too great.
func TestFormBeforeLarge(t *testing.T) {
	c := good()
	for i := range c.r {
		for j := range c.r {
			r := with(c.r, i, interval.Ints(0, 1<<31))
			r = with(r, j, api.Interval{Lo: dyadic.Of(2), Hi: dyadic.Of(1)})
			call{c.d, r, c.f}.check(t, "a range that is not valid", results{choose: api.ErrForm, fits: api.ErrForm})
		}
	}
}

func TestManyBlocks(t *testing.T) {
	for _, n := range []int{1, 2, api.MaxBlocks - 1, api.MaxBlocks} {
		c := call{constants(n), make([]api.Interval, n), make([]int, n)}
		c.check(t, "constants", results{})
		if f, err := Uniform(c.d, c.r); !slices.Equal(f, slices.Repeat([]int{30}, n)) || err != nil {
			t.Errorf("%d constants: %v, %v", n, f, err)
		}
		c.r = c.r[1:]
		c.check(t, "a range too few", results{choose: api.ErrShape, fits: api.ErrShape})
	}
	n := api.MaxBlocks + 1
	call{constants(n), make([]api.Interval, n), make([]int, n)}.check(t, "many constants", results{api.ErrLarge, api.ErrLarge, api.ErrLarge})
	call{constants(n), nil, nil}.check(t, "many constants", results{api.ErrLarge, api.ErrLarge, api.ErrLarge})
}

// Scales beyond their range are no errors, but they do not fit.
func TestScalesBeyondTheirRange(t *testing.T) {
	c := good()
	for i := range c.f {
		for _, x := range []int{-1, 31, math.MinInt, math.MaxInt} {
			f := with(c.f, i, x)
			if is, err := Fits(c.d, c.r, f); is || err != nil {
				t.Errorf("Fits with %v = %v, %v", f, is, err)
			}
			checkShifts(t, c.d, f)
		}
	}
}

func TestRangesOfManyWords(t *testing.T) {
	words := slices.Repeat([]uint32{1}, 1<<16)
	for _, den := range []int{0, 1, api.MaxDen} {
		x := api.Dyadic{Words: words, Den: den}
		for _, a := range []api.Interval{{Hi: x}, {Lo: dyadic.Neg(x)}, {Lo: x, Hi: x}} {
			r := []api.Interval{{}, a}
			c := call{constants(2), r, []int{0, 0}}
			c.check(t, "a range of many words", results{choose: api.ErrLarge})
			if is, err := Fits(c.d, c.r, c.f); is || err != nil {
				t.Errorf("a range of many words fits: %v, %v", is, err)
			}
		}
	}
}

// Rule 3 of the document: arguments stay as they are.
func TestArgumentsStay(t *testing.T) {
	r := rand.New(rand.NewSource(20))
	for _, d := range diagrams(21) {
		ranges := anyRanges(r, len(d.Blocks), anyBits(r))
		f := anyScales(r, ranges)
		before, rangesBefore, scalesBefore := copied(d), copiedRanges(ranges), slices.Clone(f)
		Choose(d, ranges)
		Uniform(d, ranges)
		Fits(d, ranges, f)
		Shifts(d, f)
		if !sameDiagram(d, before) || !sameRanges(ranges, rangesBefore) || !slices.Equal(f, scalesBefore) {
			t.Fatalf("%v, %v, %v became %v, %v, %v", before, texts(rangesBefore), scalesBefore, d, texts(ranges), f)
		}
	}
}

// Rule 3 of the document: results are new memory.
func TestResultsAreNewMemory(t *testing.T) {
	c := good()
	for _, choose := range []func(api.Diagram, []api.Interval) ([]int, error){Choose, Uniform} {
		first, err := choose(c.d, c.r)
		second, secondErr := choose(c.d, c.r)
		if err != nil || secondErr != nil || !slices.Equal(first, second) {
			t.Fatalf("%v, %v and %v, %v", first, err, second, secondErr)
		}
		before := slices.Clone(second)
		first = first[:cap(first)]
		for i := range first {
			first[i] = 77
		}
		if third, err := choose(c.d, c.r); !slices.Equal(second, before) || !slices.Equal(third, before) || err != nil {
			t.Errorf("results share memory: %v, %v, not %v", second, third, before)
		}
	}
	if want := good(); !sameDiagram(c.d, want.d) || !sameRanges(c.r, want.r) {
		t.Errorf("a result shares memory with arguments: %v, %v", c.d, texts(c.r))
	}
}

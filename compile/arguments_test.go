package compile

import (
	"math"
	"math/rand"
	"slices"
	"testing"

	"commutator/api"
	"commutator/code"
)

// P15.1 for arguments that are refused, for the order of errors, and for the memory of arguments and results.

// call has the arguments of Compile.
type call struct {
	d api.Diagram
	f []int
}

func good() call {
	d := everyKind()
	d.Blocks = append(d.Blocks,
		api.Block{Kind: api.BlockGain, Args: []int{12}, Value: api.Scalar{Num: 3}},
		api.Block{Kind: api.BlockClip, Args: []int{12}, Value: api.Scalar{Num: -3, Exp: -4}, Upper: api.Scalar{Num: 3}},
		api.Block{Kind: api.BlockDelay, Args: []int{15}},
		api.Block{Kind: api.BlockConst, Value: api.Scalar{Num: 3}},
	)
	return call{d, []int{2, 5, 4, 4, 7, 3, 1, 0, 6, 9, 8, 10, 11, 12, 13, 20, 9, 8, 7}}
}

func (c call) check(t *testing.T, name string, want error) {
	t.Helper()
	if p, err := Compile(c.d, c.f); err != want || err != nil && !sameProgram(p, api.Program{}) {
		t.Errorf("%s: Compile(%v, %v) = %v, %v, not %v", name, c.d, c.f, p, err, want)
	}
}

// fault is something wrong; faults with a lesser rank are found first.
type fault struct {
	name string
	rank int
	want error
	make func(c *call)
}

// in returns c with the fault, in new memory.
func (f fault) in(c call) call {
	c = call{copied(c.d), slices.Clone(c.f)}
	f.make(&c)
	return c
}

// diagramFaults has each error of layer 10.
func diagramFaults() []fault {
	var list []fault
	add := func(name string, want error, change func(d *api.Diagram)) {
		list = append(list, fault{name, 0, want, func(c *call) { change(&c.d) }})
	}
	add("many inputs", api.ErrLarge, func(d *api.Diagram) { d.Inputs = make([]api.Port, 17) })
	add("many blocks", api.ErrLarge, func(d *api.Diagram) { d.Blocks = append(d.Blocks, make([]api.Block, 46)...) })
	add("many outputs", api.ErrLarge, func(d *api.Diagram) { d.Outputs = make([]int, 17) })
	add("port", api.ErrRange, func(d *api.Diagram) { d.Inputs[0].Frac = 31 })
	add("bounds of a port", api.ErrRange, func(d *api.Diagram) { d.Inputs[0].Lo = 61 })
	add("kind", api.ErrType, func(d *api.Diagram) { d.Blocks[0].Kind = 12 })
	add("kind below 0", api.ErrType, func(d *api.Diagram) { d.Blocks[0].Kind = -1 })
	add("arguments", api.ErrShape, func(d *api.Diagram) { d.Blocks[0].Args = nil })
	add("argument", api.ErrIndex, func(d *api.Diagram) { d.Blocks[1].Args[0] = 19 })
	add("port of a block", api.ErrIndex, func(d *api.Diagram) { d.Blocks[13].Args[0] = 2 })
	add("scalar", api.ErrRange, func(d *api.Diagram) { d.Blocks[0].Value.Exp = 31 })
	add("unused scalar", api.ErrForm, func(d *api.Diagram) { d.Blocks[1].Upper.Exp = 1 })
	add("clip", api.ErrOrder, func(d *api.Diagram) { d.Blocks[6].Value, d.Blocks[6].Upper = api.Scalar{Num: 10}, api.Scalar{Num: 9} })
	add("output", api.ErrIndex, func(d *api.Diagram) { d.Outputs[0] = -1 })
	add("circle", api.ErrCycle, func(d *api.Diagram) { d.Blocks[1].Args[0] = 2 })
	return list
}

// scaleFaults are wrong scales.
func scaleFaults() []fault {
	var list []fault
	for _, n := range []int{0, 1, 18, 20, 64, 1000} {
		list = append(list, fault{"number of scales", 1, api.ErrShape, func(c *call) { c.f = append(c.f, make([]int, 1000)...)[:n] }})
	}
	for i := range good().f {
		for _, x := range []int{-1, 31, 32, -64, 1 << 32, 1<<32 + 1, math.MinInt, math.MaxInt} {
			list = append(list, fault{"scale", 2, api.ErrRange, func(c *call) {
				if i < len(c.f) {
					c.f[i] = x
				}
			}})
		}
	}
	return list
}

// programFaults are raw values that overflow, and shifts that are out of range, with the scales of the good call.
func programFaults() []fault {
	var list []fault
	add := func(name string, rank int, want error, i int, change func(b *api.Block)) {
		list = append(list, fault{name, rank, want, func(c *call) { change(&c.d.Blocks[i]) }})
	}
	least, great, most := api.Scalar{Num: -1<<31 + 1, Exp: 30}, api.Scalar{Num: 1, Exp: 30}, api.Scalar{Num: 1<<31 - 1, Exp: 30}
	for i, b := range good().d.Blocks {
		switch b.Kind {
		case api.BlockConst, api.BlockDelay:
			for _, s := range []api.Scalar{least, great, most, {Num: 1 << 30, Exp: 1}} {
				add("raw value", 3, api.ErrOverflow, i, func(b *api.Block) { b.Value = s })
			}
		case api.BlockClip:
			add("lower bound", 3, api.ErrOverflow, i, func(b *api.Block) { b.Value = least })
			add("upper bound", 3, api.ErrOverflow, i, func(b *api.Block) { b.Upper = most })
			add("both bounds", 3, api.ErrOverflow, i, func(b *api.Block) { b.Value, b.Upper = least, most })
			add("great bounds", 3, api.ErrOverflow, i, func(b *api.Block) { b.Value, b.Upper = great, most })
		case api.BlockGain:
			for _, s := range []api.Scalar{{Num: 1, Exp: 30}, {Num: 0, Exp: 30}, {Num: -1, Exp: 28}, most} {
				add("shift", 4, api.ErrRange, i, func(b *api.Block) { b.Value = s })
			}
		}
	}
	return list
}

func TestGoodCallIsAccepted(t *testing.T) {
	good().check(t, "a good call", nil)
}

func TestFaults(t *testing.T) {
	for _, f := range slices.Concat(diagramFaults(), scaleFaults(), programFaults()) {
		f.in(good()).check(t, f.name, f.want)
	}
}

// With two faults the one that is found first counts.
func TestOrderOfFaults(t *testing.T) {
	all := slices.Concat(diagramFaults(), scaleFaults(), programFaults())
	for _, f := range all {
		for _, g := range all {
			// The later fault is made first, so that the earlier one is not undone.
			if f.rank < g.rank {
				f.in(g.in(good())).check(t, f.name+" before "+g.name, f.want)
			}
		}
	}
}

// The limits of the raw values that a diagram has, and the scale that counts: that of the block.
func TestLimitsOfRawValues(t *testing.T) {
	for f := range 31 {
		for _, c := range []struct {
			s    api.Scalar
			want error
		}{
			{api.Scalar{Num: 1<<31 - 1, Exp: -f}, nil},
			{api.Scalar{Num: 1<<31 - 1, Exp: 1 - f}, api.ErrOverflow},
			{api.Scalar{Num: 1 - 1<<31, Exp: -f}, nil},
			{api.Scalar{Num: 1 - 1<<31, Exp: 1 - f}, api.ErrOverflow},
			{api.Scalar{Num: -1 << 30, Exp: 1 - f}, nil},
			{api.Scalar{Num: 1 << 30, Exp: 1 - f}, api.ErrOverflow},
			{api.Scalar{Num: -1<<30 - 1, Exp: 1 - f}, api.ErrOverflow},
			{api.Scalar{Num: 1<<30 - 1, Exp: 1 - f}, nil},
		} {
			clip := api.Block{Kind: api.BlockClip, Args: []int{1}, Value: c.s}
			if c.s.Num > 0 {
				clip = api.Block{Kind: api.BlockClip, Args: []int{1}, Upper: c.s}
			}
			for _, b := range []api.Block{{Kind: api.BlockConst, Value: c.s}, {Kind: api.BlockDelay, Args: []int{1}, Value: c.s}, clip} {
				for _, other := range []int{0, f, 30} {
					d := api.Diagram{Blocks: []api.Block{b, {Kind: api.BlockConst}}}
					call{d, []int{f, other}}.check(t, "a limit", c.want)
					checkCompile(t, d, []int{f, other})
				}
			}
		}
	}
}

// The Value of a gain is no raw value: it may be great, as long as the shift is permitted.
func TestGreatGains(t *testing.T) {
	for _, num := range []int{1<<31 - 1, 1 - 1<<31} {
		d := api.Diagram{Blocks: []api.Block{
			{Kind: api.BlockGain, Args: []int{1}, Value: api.Scalar{Num: num, Exp: 30}},
			{Kind: api.BlockConst, Value: api.Scalar{Num: 3}},
		}}
		call{d, []int{30, 30}}.check(t, "a constant", api.ErrOverflow)
		d.Blocks[1].Value.Exp = -3
		call{d, []int{30, 30}}.check(t, "a great gain", nil)
		call{d, []int{0, 0}}.check(t, "a great gain", nil)
		call{d, []int{30, 29}}.check(t, "a great shift", api.ErrRange)
	}
}

func TestRefusedByRaw(t *testing.T) {
	for _, c := range []struct {
		s api.Scalar
		f int
	}{
		{api.Scalar{Num: 1 << 31}, 0},
		{api.Scalar{Num: -1 << 31}, 0},
		{api.Scalar{Num: 1 << 31, Exp: -62}, 0},
		{api.Scalar{Num: -1 << 31, Exp: -62}, 30},
		{api.Scalar{Num: math.MaxInt}, 0},
		{api.Scalar{Num: math.MinInt}, 0},
		{api.Scalar{Num: 1 << 32, Exp: -5}, 0},
		{api.Scalar{Num: 1, Exp: -63}, 0},
		{api.Scalar{Num: 1, Exp: -63}, 30},
		{api.Scalar{Num: 1, Exp: 31}, 0},
		{api.Scalar{Num: 0, Exp: 31}, 0},
		{api.Scalar{Num: 0, Exp: -63}, 0},
		{api.Scalar{Num: 1, Exp: math.MinInt}, 0},
		{api.Scalar{Num: 1, Exp: math.MaxInt}, 30},
		{api.Scalar{Num: 1}, -1},
		{api.Scalar{Num: 1}, 31},
		{api.Scalar{}, -1},
		{api.Scalar{}, 31},
		{api.Scalar{Num: 1, Exp: -30}, 31},
		{api.Scalar{Num: 1, Exp: 30}, -30},
		{api.Scalar{Num: 1, Exp: 30}, math.MinInt},
		{api.Scalar{Num: 1, Exp: -62}, math.MaxInt},
		{api.Scalar{Num: 1<<31 - 1, Exp: 30}, 31},
	} {
		if n, err := Raw(c.s, c.f); n != 0 || err != api.ErrRange {
			t.Errorf("Raw(%v, %d) = %d, %v", c.s, c.f, n, err)
		}
	}
}

// Rule 3 of the document: arguments stay as they are.
func TestArgumentsStay(t *testing.T) {
	r := rand.New(rand.NewSource(20))
	for _, numbers := range []style{wild, short} {
		for _, d := range diagrams(r, api.MaxBlocks, 4, numbers) {
			f := anyScales(r, len(d.Blocks), 0, 30)
			before, scalesBefore := copied(d), slices.Clone(f)
			Compile(d, f)
			if !sameDiagram(d, before) || !slices.Equal(f, scalesBefore) {
				t.Fatalf("%v, %v became %v, %v", before, scalesBefore, d, f)
			}
		}
	}
}

// spoil overwrites all elements of a list, also those behind its end.
func spoil[T any](list []T, x T) {
	list = list[:cap(list)]
	for i := range list {
		list[i] = x
	}
}

// Rule 3 of the document: results are new memory, and their lists share none with each other.
func TestResultsAreNewMemory(t *testing.T) {
	c := good()
	first, err := Compile(c.d, c.f)
	second, secondErr := Compile(c.d, c.f)
	if err != nil || secondErr != nil || !sameProgram(first, second) {
		t.Fatalf("%v, %v and %v, %v", first, err, second, secondErr)
	}
	before := copiedProgram(second)
	spoil(first.Ports, api.Port{Lo: 77, Hi: 78})
	spoil(first.Init, 77)
	if !slices.Equal(first.Outputs, before.Outputs) {
		t.Errorf("the cells share memory with the outputs: %v", first.Outputs)
	}
	spoil(first.Outputs, 78)
	spoil(first.Code, api.Instr{Op: 77})
	if first.Init[0] != 77 {
		t.Errorf("the outputs share memory with the cells: %v", first.Init)
	}
	if want := good(); !sameDiagram(c.d, want.d) || !slices.Equal(c.f, want.f) {
		t.Errorf("a result shares memory with arguments: %v, %v", c.d, c.f)
	}
	spoil(c.d.Inputs, api.Port{})
	spoil(c.d.Outputs, 0)
	spoil(c.f, 0)
	if !sameProgram(second, before) {
		t.Errorf("a result shares memory: %v, not %v", second, before)
	}
	third := good()
	if p, err := Compile(third.d, third.f); !sameProgram(p, before) || err != nil || code.Check(p) != nil {
		t.Errorf("a result depends on an earlier one: %v, %v", p, err)
	}
}

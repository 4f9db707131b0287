package exact

import (
	"math"
	"math/big"
	"math/rand"
	"runtime"
	"slices"
	"testing"

	"commutator/api"
	"commutator/dyadic"
)

// P11.1 for arguments that are refused, for the ends of the ranges, and for the memory of arguments and results.

func TestRefusedScalars(t *testing.T) {
	wide := []int{math.MinInt, -1 << 32, -1 << 31, 1 << 31, 1<<31 + 1, 1 << 32, math.MaxInt}
	for _, num := range wide {
		for _, exp := range []int{0, -62, 30, -63, 31} {
			refuseValue(t, api.Scalar{Num: num, Exp: exp})
		}
	}
	for _, exp := range append(wide, -64, -63, 31, 32) {
		for _, num := range []int{0, 1, -1, 1<<31 - 1} {
			refuseValue(t, api.Scalar{Num: num, Exp: exp})
		}
	}
}

func refuseValue(t *testing.T, s api.Scalar) {
	t.Helper()
	if x, err := Value(s); !sameNumber(x, api.Dyadic{}) || err != api.ErrRange {
		t.Errorf("Value(%v) = %v, %v", s, x, err)
	}
}

// call is a call of Step, which refusals are made of.
type call struct {
	d     api.Diagram
	state []api.Dyadic
	in    []int
}

// good is a call with three delays and two inputs that is accepted.
func good() call {
	d := squares()
	return call{d, dyadicsOf(startOf(d)), []int{4, 7}}
}

func (c call) refuse(t *testing.T, name string, want error) {
	t.Helper()
	if next, values, err := Step(c.d, c.state, c.in); len(next) > 0 || len(values) > 0 || err != want {
		t.Errorf("%s: %v, %v, %v, not %v", name, next, values, err, want)
	}
}

type fault struct {
	name string
	make func(c *call)
	want error
}

// diagramFaults has each error of layer 10.
func diagramFaults() []fault {
	return []fault{
		{"many inputs", func(c *call) { c.d.Inputs = make([]api.Port, 17) }, api.ErrLarge},
		{"port", func(c *call) { c.d.Inputs[0].Frac = 31 }, api.ErrRange},
		{"kind", func(c *call) { c.d.Blocks[0].Kind = 12 }, api.ErrType},
		{"arguments", func(c *call) { c.d.Blocks[0].Args = nil }, api.ErrShape},
		{"argument", func(c *call) { c.d.Blocks[1].Args[1] = 6 }, api.ErrIndex},
		{"scalar", func(c *call) { c.d.Blocks[2].Value.Exp = 31 }, api.ErrRange},
		{"unused scalar", func(c *call) { c.d.Blocks[3].Upper.Exp = 1 }, api.ErrForm},
		{"clip", func(c *call) {
			c.d.Blocks[4] = api.Block{Kind: api.BlockClip, Args: []int{0}, Value: api.Scalar{Num: 1}}
		}, api.ErrOrder},
		{"output", func(c *call) { c.d.Outputs[3] = -1 }, api.ErrIndex},
		{"circle", func(c *call) { c.d.Blocks[1].Args[1] = 3 }, api.ErrCycle},
	}
}

func wrongNumbers() []api.Dyadic {
	return []api.Dyadic{
		{Neg: true},
		{Den: 1},
		{Words: []uint32{0}},
		{Words: []uint32{1, 0}},
		{Words: []uint32{2}, Den: 1},
		{Words: []uint32{0, 1}, Den: 1},
		{Words: []uint32{1}, Den: -1},
		{Words: []uint32{1}, Den: api.MaxDen + 1},
		{Words: make([]uint32, 1000)},
		{Den: math.MinInt},
		{Words: []uint32{1}, Den: math.MaxInt},
	}
}

// stepFaults are the things that are wrong with a state or with inputs, in the order in which they are found.
func stepFaults() []fault {
	var list []fault
	add := func(name string, want error, change func(c *call)) {
		list = append(list, fault{name, change, want})
	}
	for _, n := range []int{0, 1, 2, 4, 64, 1000} {
		add("length of the state", api.ErrShape, func(c *call) { c.state = make([]api.Dyadic, n) })
	}
	for i := range good().state {
		for _, x := range wrongNumbers() {
			add("element of the state", api.ErrForm, func(c *call) { c.state = with(c.state, i, x) })
		}
	}
	for _, n := range []int{0, 1, 3, 16, 1000} {
		add("number of inputs", api.ErrShape, func(c *call) { c.in = make([]int, n) })
	}
	for i, wrong := range [][]int{{-4, 5, math.MinInt, math.MaxInt, -1 << 32, 1 << 32}, {6, 8, 0, -7, math.MinInt, math.MaxInt}} {
		for _, x := range wrong {
			add("input", api.ErrRange, func(c *call) { c.in = with(c.in, i, x) })
		}
	}
	for i := range good().state {
		for _, x := range longNumbers() {
			add("long element of the state", api.ErrLarge, func(c *call) { c.state = with(c.state, i, x) })
		}
	}
	return list
}

// with returns a list that may be too short for it with x as element i.
func with[T any](list []T, i int, x T) []T {
	list = slices.Clone(list)
	if i < len(list) {
		list[i] = x
	}
	return list
}

func (f fault) in(c call) call {
	c.d = copied(c.d)
	f.make(&c)
	return c
}

func TestDiagramFaults(t *testing.T) {
	for _, f := range diagramFaults() {
		c := f.in(good())
		if state, err := Start(c.d); len(state) > 0 || err != f.want {
			t.Errorf("%s: Start = %v, %v", f.name, state, err)
		}
		for _, list := range [][][]int{nil, {{4, 7}}, {nil}, {{5, 5}}, make([][]int, 1000)} {
			if outputs, err := Run(c.d, list); len(outputs) > 0 || err != f.want {
				t.Errorf("%s: Run = %v, %v", f.name, outputs, err)
			}
		}
		c.refuse(t, f.name, f.want)
		for _, g := range stepFaults() {
			g.in(c).refuse(t, f.name+" before "+g.name, f.want)
		}
	}
}

// Rule 1 of the document: of two faults, the one that is to be found first is found.
func TestFirstFaultIsFound(t *testing.T) {
	list := stepFaults()
	for i, f := range list {
		f.in(good()).refuse(t, f.name, f.want)
		for _, g := range list[i:] {
			// The first fault is made last, as it may be at the same place.
			f.in(g.in(good())).refuse(t, f.name+" before "+g.name, f.want)
		}
	}
}

func TestInputsAtTheEndsOfTheirRange(t *testing.T) {
	for _, p := range []api.Port{{Lo: -1 << 31, Hi: 1<<31 - 1, Frac: 30}, {Lo: -1 << 31, Hi: 1<<31 - 1}, {Lo: -3, Hi: 5, Frac: 2}, {}, {Lo: 7, Hi: 7, Frac: 1}} {
		d := made()
		d.Inputs[0] = p
		for _, in := range []int{p.Lo, p.Hi} {
			if !checkStep(t, d, []*big.Rat{scaled(1, -1)}, []int{in}) || !checkRun(t, d, [][]int{{in}, {in}}) {
				t.Errorf("%d of %v is too long", in, p)
			}
		}
		for _, in := range []int{p.Lo - 1, p.Hi + 1} {
			call{d, []api.Dyadic{{}}, []int{in}}.refuse(t, "input", api.ErrRange)
		}
	}
}

// power returns 2^exp.
func power(exp int) api.Dyadic {
	return dyadic.Shift(dyadic.Of(1), exp)
}

// ones returns 2^bits - 1.
func ones(bits int) api.Dyadic {
	return dyadic.Sub(power(bits), dyadic.Of(1))
}

// longNumbers are valid, but longer than 4096.
func longNumbers() []api.Dyadic {
	return []api.Dyadic{
		power(4096), ones(4097), dyadic.Neg(power(4096)), power(-4097), dyadic.Neg(power(-4097)), dyadic.Shift(ones(4097), -4000),
		dyadic.Shift(dyadic.Of(3), -4097), dyadic.Add(power(2048), power(-2048)), power(-api.MaxDen), power(1 << 16), ones(100000),
	}
}

// shortNumbers are the longest ones that are short enough.
func shortNumbers() []api.Dyadic {
	return []api.Dyadic{
		{}, power(4095), ones(4096), dyadic.Neg(power(4095)), dyadic.Neg(ones(4096)), power(-4096), dyadic.Shift(ones(4096), -4096),
		dyadic.Shift(dyadic.Of(-3), -4096), dyadic.Add(power(2047), power(-2048)), dyadic.Shift(ones(4096), -1),
	}
}

func TestLengthOfState(t *testing.T) {
	d := api.Diagram{Blocks: []api.Block{
		{Kind: api.BlockConst},
		{Kind: api.BlockDelay, Args: []int{0}},
		{Kind: api.BlockDelay, Args: []int{1}},
	}}
	for _, x := range shortNumbers() {
		next, values, err := Step(d, []api.Dyadic{x, x}, nil)
		if !sameNumbers(next, []api.Dyadic{{}, x}) || !sameNumbers(values, []api.Dyadic{{}, x, x}) || err != nil {
			t.Errorf("%v: %v, %v, %v", x, next, values, err)
		}
	}
	for _, x := range longNumbers() {
		for i := range 2 {
			call{d, with(make([]api.Dyadic, 2), i, x), nil}.refuse(t, "long element", api.ErrLarge)
		}
	}
	call{d, []api.Dyadic{{Words: slices.Repeat([]uint32{1}, 1<<22)}, {}}, nil}.refuse(t, "element of many words", api.ErrLarge)
}

// longStep is a block of two delays, or of one of them, and a state at which its value has the longest permitted length or is longer.
type longStep struct {
	block api.Block
	x, y  api.Dyadic
	ok    bool
}

func longSteps() []longStep {
	one, twice, half := dyadic.Of(1), api.Scalar{Num: 1, Exp: 1}, api.Scalar{Num: -1, Exp: -1}
	add := api.Block{Kind: api.BlockAdd, Args: []int{0, 1}}
	sub := api.Block{Kind: api.BlockSub, Args: []int{0, 1}}
	mul := api.Block{Kind: api.BlockMul, Args: []int{0, 1}}
	double := api.Block{Kind: api.BlockGain, Args: []int{0}, Value: twice}
	halve := api.Block{Kind: api.BlockGain, Args: []int{1}, Value: half}
	return []longStep{
		{add, ones(4096), api.Dyadic{}, true},
		{add, ones(4096), one, false},
		{add, power(4095), dyadic.Sub(power(4095), one), true},
		{add, power(4095), power(4095), false},
		{add, power(2047), power(-2048), true},
		{add, power(2048), power(-2048), false},
		{sub, dyadic.Neg(ones(4096)), one, false},
		{sub, ones(4096), one, true},
		{sub, ones(4096), dyadic.Neg(one), false},
		{sub, power(4095), power(-1), true},
		{sub, power(4095), power(-2), false},
		{sub, power(4095), dyadic.Neg(power(4094)), true},
		{mul, power(2048), power(2047), true},
		{mul, power(2048), power(2048), false},
		{mul, power(-2048), power(-2048), true},
		{mul, power(-2048), power(-2049), false},
		{mul, ones(2048), dyadic.Neg(ones(2048)), true},
		{mul, ones(2048), dyadic.Neg(ones(2049)), false},
		{mul, ones(4096), ones(4096), false},
		{mul, dyadic.Shift(ones(4096), -4096), dyadic.Shift(ones(4096), -4096), false},
		{mul, power(4095), power(-4096), true},
		{mul, ones(4096), api.Dyadic{}, true},
		{double, ones(4095), one, true},
		{double, ones(4096), one, false},
		{halve, one, power(-4095), true},
		{halve, one, power(-4096), false},
		{halve, one, power(4095), true},
	}
}

func TestLengthOfBlocks(t *testing.T) {
	for i, step := range longSteps() {
		d := api.Diagram{Blocks: []api.Block{{Kind: api.BlockDelay, Args: []int{0}}, {Kind: api.BlockDelay, Args: []int{1}}, step.block}}
		state := []*big.Rat{fractionOf(step.x), fractionOf(step.y)}
		if checkStep(t, d, state, nil) != step.ok {
			t.Errorf("step %d: not %v", i, step.ok)
		}
		// A block that makes the value short again does not help.
		d.Blocks = append(d.Blocks, api.Block{Kind: api.BlockClip, Args: []int{2}})
		d.Outputs = []int{3}
		if checkStep(t, d, state, nil) != step.ok {
			t.Errorf("step %d with a clip behind it: not %v", i, step.ok)
		}
	}
}

func TestLengthOfOtherKinds(t *testing.T) {
	for _, b := range []api.Block{
		{Kind: api.BlockNeg, Args: []int{0}},
		{Kind: api.BlockAbs, Args: []int{1}},
		{Kind: api.BlockMin, Args: []int{0, 1}},
		{Kind: api.BlockMax, Args: []int{0, 1}},
		{Kind: api.BlockClip, Args: []int{1}, Value: api.Scalar{Num: -1}, Upper: api.Scalar{Num: 1}},
		{Kind: api.BlockGain, Args: []int{1}, Value: api.Scalar{Num: -1}},
	} {
		d := api.Diagram{Blocks: []api.Block{{Kind: api.BlockDelay, Args: []int{2}}, {Kind: api.BlockDelay, Args: []int{0}}, b}}
		for _, x := range shortNumbers() {
			for _, y := range shortNumbers() {
				if !checkStep(t, d, []*big.Rat{fractionOf(x), fractionOf(y)}, nil) {
					t.Errorf("%v of %v and %v is too long", b, x, y)
				}
			}
		}
	}
}

// The length doubles from block to block, so that only a stop at the first value that is too long comes to an end.
func TestChainsOfProductsStop(t *testing.T) {
	d := api.Diagram{Inputs: []api.Port{{Lo: -1 << 31, Hi: 1<<31 - 1, Frac: 30}}, Outputs: []int{63}}
	for i := range api.MaxBlocks {
		d.Blocks = append(d.Blocks, api.Block{Kind: api.BlockMul, Args: []int{i - 1, i - 1}})
	}
	d.Blocks[0] = api.Block{Kind: api.BlockInput, Args: []int{0}}
	for _, in := range []int{3, -1 << 31, 1<<31 - 1} {
		call{d, nil, []int{in}}.refuse(t, "squares", api.ErrLarge)
	}
	if !checkStep(t, d, nil, []int{1 << 30}) || !checkStep(t, d, nil, []int{0}) {
		t.Error("powers of 0 and 1 are too long")
	}
}

func TestNumberOfSteps(t *testing.T) {
	list := make([][]int, 256)
	for tick := range list {
		list[tick] = []int{1}
	}
	d := made()
	outputs, err := Run(d, list)
	if err != nil || len(outputs) != 256 || !sameNumbers(outputs[255], []api.Dyadic{dyadic.Of(256)}) {
		t.Errorf("256 steps: %v, %v", outputs, err)
	}
	for _, more := range [][][]int{{{1}}, {{9}}, {nil}, make([][]int, 1000)} {
		if outputs, err := Run(d, append(slices.Clone(list), more...)); len(outputs) > 0 || err != api.ErrLarge {
			t.Errorf("more than 256 steps: %v, %v", outputs, err)
		}
		if outputs, err := Run(d, append(slices.Clone(more), list...)); len(outputs) > 0 || err != api.ErrLarge {
			t.Errorf("more than 256 steps: %v, %v", outputs, err)
		}
	}
}

func TestFirstStepWithAnErrorIsFound(t *testing.T) {
	d := squares()
	d.Blocks[0].Value = api.Scalar{Num: 1 << 30, Exp: 30}
	// The squares are 2^120, 2^240, .., and too long in the seventh step.
	right, wrong, short := []int{0, 7}, []int{0, 6}, []int{0}
	for _, c := range []struct {
		list [][]int
		want error
	}{
		{[][]int{right, right, right, right, right, right}, nil},
		{[][]int{right, right, right, right, right, right, right}, api.ErrLarge},
		{[][]int{right, right, right, right, right, right, right, wrong}, api.ErrLarge},
		{[][]int{right, right, right, right, right, right, wrong}, api.ErrRange},
		{[][]int{right, right, right, right, right, wrong, short}, api.ErrRange},
		{[][]int{right, short, wrong}, api.ErrShape},
		{[][]int{wrong}, api.ErrRange},
		{[][]int{right, right, nil}, api.ErrShape},
		{[][]int{{0, 7, 0}, wrong}, api.ErrShape},
	} {
		outputs, err := Run(d, c.list)
		if err != c.want || (err == nil) != (len(outputs) == len(c.list)) || err != nil && len(outputs) > 0 {
			t.Errorf("%v: %v, %v, not %v", c.list, outputs, err, c.want)
		}
	}
}

// The panic of a long value is told from others, which go on.
func TestOtherPanicsGoOn(t *testing.T) {
	defer func() {
		if _, is := recover().(runtime.Error); !is {
			t.Error("there is no panic")
		}
	}()
	evaluation{order: []int{0}}.step(nil, nil)
}

// Rule 3 of the document: arguments stay as they are.
func TestArgumentsStay(t *testing.T) {
	r := rand.New(rand.NewSource(21))
	for _, d := range diagrams(22, 20, false) {
		before, state, list := copied(d), dyadicsOf(anyState(r, d)), anyInputs(r, d, 3, 1)
		stateBefore, in := copiedNumbers(state), slices.Clone(list[0])
		Start(d)
		Step(d, state, list[0])
		Run(d, list)
		if !sameDiagram(d, before) || !sameNumbers(state, stateBefore) || !slices.Equal(list[0], in) {
			t.Fatalf("%v, %v, %v became %v, %v, %v", before, stateBefore, in, d, state, list[0])
		}
	}
}

func copiedNumbers(list []api.Dyadic) []api.Dyadic {
	list = slices.Clone(list)
	for i := range list {
		list[i].Words = slices.Clone(list[i].Words)
	}
	return list
}

// checkMemory overwrites each number, also behind its end, and looks whether another one changes.
func checkMemory(t *testing.T, d api.Diagram, numbers []api.Dyadic) {
	t.Helper()
	for i, x := range numbers {
		before := copiedNumbers(numbers)
		for j := range x.Words[:cap(x.Words)] {
			x.Words[:cap(x.Words)][j] ^= math.MaxUint32
		}
		for j, y := range numbers {
			if j != i && !sameNumber(y, before[j]) {
				t.Fatalf("two numbers of %v share memory: %v", d, before[j])
			}
		}
	}
}

// checkLists overwrites each list, also behind its end, and looks whether another one changes.
func checkLists(t *testing.T, d api.Diagram, lists ...[]api.Dyadic) {
	t.Helper()
	for i, list := range lists {
		var before [][]api.Dyadic
		for _, other := range lists {
			before = append(before, copiedNumbers(other))
		}
		list = list[:cap(list)]
		for j := range list {
			list[j] = dyadic.Of(77 + i)
		}
		for j, other := range lists {
			if j != i && !sameNumbers(other, before[j]) {
				t.Fatalf("two lists for %v share memory: %v", d, before[j])
			}
		}
	}
}

// Rule 3 of the document, and rule 7 of the language: results are new memory.
func TestResultsAreNewMemory(t *testing.T) {
	r := rand.New(rand.NewSource(23))
	for _, d := range append(diagrams(24, 24, false), squares()) {
		state, list := dyadicsOf(anyState(r, d)), anyInputs(r, d, 3, 1)
		next, values, _ := Step(d, state, list[0])
		checkMemory(t, d, slices.Concat(state, next, values))
		checkLists(t, d, state, next, values)
		outputs, _ := Run(d, list)
		checkMemory(t, d, slices.Concat(outputs...))
		checkLists(t, d, outputs...)
		start, _ := Start(d)
		checkMemory(t, d, start)
	}
}

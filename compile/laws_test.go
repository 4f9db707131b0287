package compile

import (
	"math/big"
	"math/rand"
	"slices"
	"testing"

	"commutator/api"
	"commutator/code"
	"commutator/dyadic"
	"commutator/exact"
)

// mustRun is a run that is accepted.
func mustRun(t *testing.T, p api.Program, cells, in []int) api.CodeRun {
	t.Helper()
	run, err := code.Run(p, cells, in)
	if err != nil {
		t.Fatalf("code.Run(%v, %v, %v): %v", p, cells, in, err)
	}
	return run
}

// mustStep is a tick that is accepted, with the values of all blocks behind it: a delay has the one of the next tick.
func mustStep(t *testing.T, d api.Diagram, state []api.Dyadic, in []int) (next, values, behind []api.Dyadic) {
	t.Helper()
	next, values, err := exact.Step(d, state, in)
	if err != nil {
		t.Fatalf("exact.Step(%v, %v, %v): %v", d, state, in, err)
	}
	behind = slices.Clone(values)
	for place, i := range blocksOf(d, api.BlockDelay) {
		behind[i] = next[place]
	}
	return next, values, behind
}

func isWord(x api.Dyadic) bool {
	n, ok := dyadic.Int(x)
	return ok && -1<<31 <= n && n < 1<<31
}

// P15.2: with whole numbers and the scale 0 everywhere the outputs are those of layer 11, and there is an overflow only where a
// value is no 32-bit int.
func TestWholeNumbers(t *testing.T) {
	r := rand.New(rand.NewSource(10))
	same, delayed, over := 0, 0, 0
	for _, d := range diagrams(r, api.MaxBlocks, 10, whole) {
		p, err := Compile(d, make([]int, len(d.Blocks)))
		if err != nil {
			t.Fatalf("Compile(%v): %v", d, err)
		}
		cells := p.Init
		state, err := exact.Start(d)
		if err != nil {
			t.Fatalf("exact.Start(%v): %v", d, err)
		}
		for range 30 {
			in := anyIn(r, p.Ports)
			run := mustRun(t, p, cells, in)
			next, values, behind := mustStep(t, d, state, in)
			if fits := !slices.ContainsFunc(values, func(x api.Dyadic) bool { return !isWord(x) }); fits == run.Overflow {
				t.Fatalf("%v has the values %v, and overflow is %v", d, values, run.Overflow)
			}
			if run.Overflow {
				over++
				break
			}
			for place, i := range d.Outputs {
				if n, _ := dyadic.Int(behind[i]); run.Outputs[place] != n {
					t.Fatalf("output %d of %v is %d, not %d", place, d, run.Outputs[place], n)
				}
				same++
				if d.Blocks[i].Kind == api.BlockDelay {
					delayed++
				}
			}
			cells, state = run.Cells, next
		}
	}
	if same < 10000 || delayed < 1000 || over < 20 {
		t.Errorf("%d outputs, %d of them delays, %d overflows", same, delayed, over)
	}
}

func isRaw(x *big.Rat, f int) bool {
	return shifted(x, f).IsInt()
}

// isExact reports whether nothing has to be rounded for block i.
func isExact(d api.Diagram, f []int, i int, values []api.Dyadic, in []int) bool {
	for _, s := range scalarsOf(d, i) {
		if !isRaw(scalarOf(s), f[i]) {
			return false
		}
	}
	value := func(arg int) *big.Rat { return fractionOf(values[arg]) }
	switch kind := d.Blocks[i].Kind; kind {
	case api.BlockInput, api.BlockGain, api.BlockMul:
		return isRaw(resultOf(d, i, in, value), f[i])
	}
	for _, arg := range d.Blocks[i].Args {
		if !isRaw(value(arg), f[i]) {
			return false
		}
	}
	return true
}

func areExact(d api.Diagram, f []int, values []api.Dyadic, in []int) bool {
	for i := range d.Blocks {
		if !isExact(d, f, i, values, in) {
			return false
		}
	}
	return true
}

// P15.2: if no value has to be rounded and none overflows, the cells of all blocks are what the diagram's values are.
func TestNothingRounded(t *testing.T) {
	r := rand.New(rand.NewSource(11))
	same, fractions, rounded := 0, 0, 0
	for _, d := range diagrams(r, 20, 100, short) {
		f := anyScales(r, len(d.Blocks), 1+r.Intn(9), 9)
		p, err := Compile(d, f)
		if err != nil {
			t.Fatalf("Compile(%v, %v): %v", d, f, err)
		}
		cells := p.Init
		state, err := exact.Start(d)
		if err != nil {
			t.Fatalf("exact.Start(%v): %v", d, err)
		}
		for range 8 {
			in := anyIn(r, p.Ports)
			run := mustRun(t, p, cells, in)
			next, values, behind := mustStep(t, d, state, in)
			if run.Overflow || !areExact(d, f, values, in) {
				rounded++
				break
			}
			for i := range d.Blocks {
				if want := shifted(fractionOf(behind[i]), f[i]); want.Cmp(scaled(run.Cells[i], 0)) != 0 {
					t.Fatalf("block %d of %v with %v is %d, not %v", i, d, f, run.Cells[i], want)
				}
				same++
				if behind[i].Den > 0 {
					fractions++
				}
			}
			cells, state = run.Cells, next
		}
	}
	if same < 5000 || fractions < 1000 || rounded < 100 {
		t.Errorf("%d values, %d of them fractions; %d ticks with something rounded or an overflow", same, fractions, rounded)
	}
}

// errorOf returns how far the cell of block i is from the exact result of its operation on the contents of its arguments' cells, in
// its units. A delay has its argument's contents of the tick before.
func errorOf(d api.Diagram, f []int, i int, cells, behind, in []int) *big.Rat {
	value := func(arg int) *big.Rat {
		if d.Blocks[arg].Kind == api.BlockDelay {
			return scaled(cells[arg], -f[arg])
		}
		return scaled(behind[arg], -f[arg])
	}
	var want *big.Rat
	if d.Blocks[i].Kind == api.BlockDelay {
		want = value(d.Blocks[i].Args[0])
	} else {
		want = resultOf(d, i, in, value)
	}
	return want.Sub(scaled(behind[i], 0), shifted(want, f[i]))
}

// isNear reports whether a cell is near enough for a block. A constant has no arguments, and is too small by less than one unit.
func isNear(b api.Block, off *big.Rat) bool {
	if b.Kind == api.BlockConst {
		return off.Sign() <= 0 && off.Cmp(scaled(-1, 0)) > 0
	}
	return off.Abs(off).Cmp(scaled(len(b.Args), 0)) <= 0
}

// anyCells returns cells with any contents of some length, but those of the bounds, which no instruction writes.
func anyCells(r *rand.Rand, d api.Diagram, p api.Program) []int {
	cells := slices.Clone(p.Init)
	limit := 1 << r.Intn(32)
	for i := range len(d.Blocks) + len(blocksOf(d, api.BlockDelay)) {
		cells[i] = r.Intn(2*limit) - limit
	}
	return cells
}

// P15.3: without an overflow the cell of each block is off by at most one unit for each argument.
func TestCellsAreNearExactResults(t *testing.T) {
	r := rand.New(rand.NewSource(12))
	near, rounded, over := [api.BlockClip + 1]int{}, [api.BlockClip + 1]int{}, 0
	for _, d := range diagrams(r, 24, 60, calm) {
		f := anyScales(r, len(d.Blocks), r.Intn(9), 9+r.Intn(17))
		p, err := Compile(d, f)
		if err == api.ErrOverflow {
			continue
		}
		if err != nil {
			t.Fatalf("Compile(%v, %v): %v", d, f, err)
		}
		cells := p.Init
		for tick := range 12 {
			if tick >= 4 {
				cells = anyCells(r, d, p)
			}
			in := anyIn(r, p.Ports)
			run := mustRun(t, p, cells, in)
			if run.Overflow {
				over++
				cells = anyCells(r, d, p)
				continue
			}
			for i, b := range d.Blocks {
				off := errorOf(d, f, i, cells, run.Cells, in)
				near[b.Kind]++
				if off.Sign() != 0 {
					rounded[b.Kind]++
				}
				if !isNear(b, off) {
					t.Fatalf("block %d of %v with %v, %v and %v is off by %v", i, d, f, cells, in, off)
				}
			}
			cells = run.Cells
		}
	}
	if slices.Min(near[:]) < 1000 || slices.Min(rounded[:]) < 1000 || over < 300 {
		t.Errorf("values: %v; rounded: %v; overflows: %d", near, rounded, over)
	}
}

// P15.3 at its limits: two operands that are both rounded make a sum that is nearly two units too small.
func TestTwoRoundedOperands(t *testing.T) {
	d := api.Diagram{Inputs: []api.Port{{Lo: -9, Hi: 9, Frac: 3}}, Blocks: []api.Block{
		{Kind: api.BlockInput, Args: []int{0}},
		{Kind: api.BlockAdd, Args: []int{0, 0}},
		{Kind: api.BlockSub, Args: []int{0, 0}},
		{Kind: api.BlockNeg, Args: []int{0}},
	}}
	p, err := checkCompile(t, d, []int{3, 0, 0, 0})
	if err != nil {
		t.Fatal(err)
	}
	for in, want := range map[int][]int{7: {7, 0, 0, 0}, -1: {-1, -2, 0, 1}, 8: {8, 2, 0, -1}, -9: {-9, -4, 0, 2}} {
		if run := mustRun(t, p, p.Init, []int{in}); !slices.Equal(run.Cells, want) || run.Overflow {
			t.Errorf("%d: %v, not %v", in, run, want)
		}
	}
}

// An example of the document: the error of the filter with 4 fraction bits is at most 1/8.
func TestErrorOfTheFilter(t *testing.T) {
	r := rand.New(rand.NewSource(13))
	p, err := Compile(filter(), []int{4, 4, 4, 4})
	if err != nil {
		t.Fatal(err)
	}
	state, err := exact.Start(filter())
	if err != nil {
		t.Fatal(err)
	}
	cells, rounded := p.Init, 0
	for tick := range 300 {
		in := []int{r.Intn(3) - 1}
		run := mustRun(t, p, cells, in)
		next, _, behind := mustStep(t, filter(), state, in)
		off := new(big.Rat).Sub(scaled(run.Outputs[0], -4), fractionOf(behind[2]))
		if run.Overflow || off.Abs(off).Cmp(scaled(1, -3)) > 0 {
			t.Fatalf("tick %d: off by %v", tick, off)
		}
		if off.Sign() != 0 {
			rounded++
		}
		cells, state = run.Cells, next
	}
	if rounded < 200 {
		t.Errorf("only %d ticks are rounded", rounded)
	}
}

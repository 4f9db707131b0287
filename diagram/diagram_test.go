package diagram

import (
	"slices"
	"testing"

	"commutator/api"
)

// P10.1: every function returns what is specified.

func checkList(t *testing.T, name string, d api.Diagram, list []int, err error, want ...int) {
	t.Helper()
	if !slices.Equal(list, want) || err != nil {
		t.Fatalf("%s of %v: %v, %v, not %v", name, d, list, err, want)
	}
}

func checkUses(t *testing.T, d api.Diagram, i int, want ...int) {
	t.Helper()
	list, err := Uses(d, i)
	checkList(t, "Uses", d, list, err, want...)
}

func checkAffine(t *testing.T, d api.Diagram, want bool) {
	t.Helper()
	if is, err := Affine(d); is != want || err != nil {
		t.Fatalf("Affine(%v) = %v, %v", d, is, err)
	}
}

func checkPrune(t *testing.T, d, want api.Diagram, numbers ...int) {
	t.Helper()
	pruned, list, err := Prune(d)
	if !same(pruned, want) || !slices.Equal(list, numbers) || err != nil {
		t.Fatalf("Prune(%v) = %v, %v, %v, not %v, %v", d, pruned, list, err, want, numbers)
	}
}

func TestExample(t *testing.T) {
	d := made()
	list, err := Order(d)
	checkList(t, "Order", d, list, err, 0, 1)
	list, err = Delays(d)
	checkList(t, "Delays", d, list, err, 2)
	checkUses(t, d, 0, 0)
	checkUses(t, d, 1, 0, 1, 2)
	checkUses(t, d, 2, 2)
	checkAffine(t, d, true)
	checkPrune(t, d, d, 0, 1, 2)
	d.Blocks[2].Kind = api.BlockNeg
	if err := Check(d); err != api.ErrCycle {
		t.Errorf("Check(%v) = %v", d, err)
	}
}

func TestEveryKind(t *testing.T) {
	d := every()
	list, err := Order(d)
	checkList(t, "Order", d, list, err, 0, 1, 3, 4, 5, 6, 7, 8, 12, 9, 10, 11, 13)
	list, err = Delays(d)
	checkList(t, "Delays", d, list, err, 2)
	checkUses(t, d, 2, 2)
	checkUses(t, d, 6, 0, 1, 2, 3, 4, 5, 6)
	checkUses(t, d, 12, 12)
	checkUses(t, d, 13, 0, 1, 2, 3, 4, 5, 6, 7, 8, 9, 10, 11, 12, 13)
	checkAffine(t, d, false)
	checkPrune(t, d, d, 0, 1, 2, 3, 4, 5, 6, 7, 8, 9, 10, 11, 12, 13)
}

func TestEmptyDiagrams(t *testing.T) {
	for _, d := range []api.Diagram{{}, {Inputs: []api.Port{}, Blocks: []api.Block{}, Outputs: []int{}}, {Inputs: []api.Port{{Lo: -1, Hi: 1}}}} {
		list, err := Order(d)
		checkList(t, "Order", d, list, err)
		list, err = Delays(d)
		checkList(t, "Delays", d, list, err)
		checkAffine(t, d, true)
		checkPrune(t, d, d)
	}
}

func TestOrderOfDelaysAlone(t *testing.T) {
	d := api.Diagram{Blocks: []api.Block{
		{Kind: api.BlockDelay, Args: []int{0}},
		{Kind: api.BlockDelay, Args: []int{2}},
		{Kind: api.BlockDelay, Args: []int{1}},
	}, Outputs: []int{2}}
	list, err := Order(d)
	checkList(t, "Order", d, list, err)
	list, err = Delays(d)
	checkList(t, "Delays", d, list, err, 0, 1, 2)
	checkUses(t, d, 1, 1)
	checkAffine(t, d, true)
	pruned := api.Diagram{Blocks: []api.Block{
		{Kind: api.BlockDelay, Args: []int{1}},
		{Kind: api.BlockDelay, Args: []int{0}},
	}, Outputs: []int{1}}
	checkPrune(t, d, pruned, 1, 2)
}

// A block with a small number stands before others only when its arguments do.
func TestOrderStartsAgainFromTheLeastBlock(t *testing.T) {
	d := api.Diagram{Blocks: []api.Block{
		{Kind: api.BlockNeg, Args: []int{3}},
		{Kind: api.BlockNeg, Args: []int{5}},
		{Kind: api.BlockConst},
		{Kind: api.BlockConst},
		{Kind: api.BlockConst},
		{Kind: api.BlockNeg, Args: []int{0}},
		{Kind: api.BlockConst},
	}}
	list, err := Order(d)
	checkList(t, "Order", d, list, err, 2, 3, 0, 4, 5, 1, 6)
}

// The argument of an input block is a port, also where a block has the same number.
func TestPortsAreNoBlocks(t *testing.T) {
	d := api.Diagram{
		Inputs: []api.Port{{}, {}, {Hi: 9}},
		Blocks: []api.Block{
			{Kind: api.BlockNeg, Args: []int{2}},
			{Kind: api.BlockInput, Args: []int{0}},
			{Kind: api.BlockInput, Args: []int{2}},
		},
		Outputs: []int{2, 0, 2},
	}
	list, err := Order(d)
	checkList(t, "Order", d, list, err, 1, 2, 0)
	checkUses(t, d, 0, 0, 2)
	checkUses(t, d, 1, 1)
	pruned := api.Diagram{
		Inputs: []api.Port{{}, {}, {Hi: 9}},
		Blocks: []api.Block{
			{Kind: api.BlockNeg, Args: []int{1}},
			{Kind: api.BlockInput, Args: []int{2}},
		},
		Outputs: []int{1, 0, 1},
	}
	checkPrune(t, d, pruned, 0, 2)
}

func TestAffineKinds(t *testing.T) {
	for kind := api.BlockInput; kind <= api.BlockClip; kind++ {
		d := api.Diagram{Inputs: []api.Port{{}}, Blocks: []api.Block{{Kind: api.BlockConst}, {Kind: kind, Args: make([]int, argsOf[kind])}}}
		bent := []int{api.BlockMin, api.BlockMax, api.BlockAbs, api.BlockClip}
		checkAffine(t, d, !slices.Contains(bent, kind))
	}
}

func TestAffineProducts(t *testing.T) {
	blocks := []api.Block{
		{Kind: api.BlockConst, Value: api.Scalar{Num: 3}},
		{Kind: api.BlockNeg, Args: []int{0}},
		{Kind: api.BlockInput, Args: []int{0}},
		{Kind: api.BlockDelay, Args: []int{0}},
		{Kind: api.BlockAdd, Args: []int{1, 3}},
		{Kind: api.BlockGain, Args: []int{2}},
		{Kind: api.BlockMul, Args: []int{2, 1}},
		{Kind: api.BlockMul, Args: []int{0, 1}},
	}
	vary := []bool{false, false, true, true, true, true, true, false}
	for i := range blocks {
		for j := range blocks {
			product := api.Block{Kind: api.BlockMul, Args: []int{i, j}}
			d := api.Diagram{Inputs: []api.Port{{}}, Blocks: append(slices.Clone(blocks), product)}
			checkAffine(t, d, !vary[i] || !vary[j])
		}
	}
}

// checkAll compares all functions with their definitions.
func checkAll(t *testing.T, d api.Diagram) {
	t.Helper()
	if circleOf(d) {
		refuseAll(t, d, api.ErrCycle)
		return
	}
	if err := Check(d); err != nil {
		t.Fatalf("Check(%v) = %v", d, err)
	}
	if list, err := Order(d); !isOrderOf(d, list) || err != nil {
		t.Fatalf("Order(%v) = %v, %v", d, list, err)
	}
	list, err := Delays(d)
	checkList(t, "Delays", d, list, err, delaysOf(d)...)
	for i, on := range dependsOf(d, false) {
		checkUses(t, d, i, indicesOf(on)...)
	}
	checkAffine(t, d, affineOf(d))
	kept := keptOf(d)
	checkPrune(t, d, prunedOf(d, kept), kept...)
}

// prunedOf returns what is left of d if only some blocks are kept.
func prunedOf(d api.Diagram, kept []int) api.Diagram {
	number := map[int]int{}
	for i, block := range kept {
		number[block] = i
	}
	left := copied(d)
	for i, block := range left.Blocks {
		for j, arg := range partsOf(d, i) {
			block.Args[j] = number[arg]
		}
	}
	for i, out := range left.Outputs {
		left.Outputs[i] = number[out]
	}
	blocks := left.Blocks
	left.Blocks = nil
	for _, block := range kept {
		left.Blocks = append(left.Blocks, blocks[block])
	}
	return left
}

func TestSmallDiagrams(t *testing.T) {
	for n := range 4 {
		small(n, func(d api.Diagram) { checkAll(t, d) })
	}
}

func TestDiagramsOfAllSizes(t *testing.T) {
	for _, d := range diagrams(1) {
		checkAll(t, d)
	}
}

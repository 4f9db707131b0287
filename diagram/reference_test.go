package diagram

import (
	"math/big"
	"math/rand"
	"slices"

	"commutator/api"
)

// The first functions of this file follow the words of the chapter; the other ones make diagrams.

// argsOf is the number of arguments of each kind of block, as in the chapter's table.
var argsOf = [12]int{1, 0, 1, 2, 2, 1, 1, 2, 2, 2, 1, 1}

// partsOf are the arguments of block i that are blocks.
func partsOf(d api.Diagram, i int) []int {
	if d.Blocks[i].Kind == api.BlockInput {
		return nil
	}
	return d.Blocks[i].Args
}

func delayAt(d api.Diagram, i int) bool {
	return d.Blocks[i].Kind == api.BlockDelay
}

// dependsOf tells for all pairs of blocks whether the first one depends on the second one, within a tick or over ticks.
// It repeats the chapter's rule until nothing is added.
func dependsOf(d api.Diagram, over bool) [][]bool {
	n := len(d.Blocks)
	depends := make([][]bool, n)
	for i := range n {
		depends[i] = make([]bool, n)
		depends[i][i] = true
	}
	for added := true; added; {
		added = false
		for i := range n {
			if delayAt(d, i) && !over {
				continue
			}
			for _, arg := range partsOf(d, i) {
				for j := range n {
					if depends[arg][j] && !depends[i][j] {
						depends[i][j], added = true, true
					}
				}
			}
		}
	}
	return depends
}

// circleOf reports whether there is a circle of blocks without a delay: a block with an argument that depends on it within a tick.
func circleOf(d api.Diagram) bool {
	within := dependsOf(d, false)
	for i := range d.Blocks {
		for _, arg := range partsOf(d, i) {
			if !delayAt(d, i) && within[arg][i] {
				return true
			}
		}
	}
	return false
}

// isOrderOf reports whether each block of the list is the least one that is not listed before it and whose arguments are,
// other than delays, and whether no block is missing.
func isOrderOf(d api.Diagram, list []int) bool {
	before := map[int]bool{}
	ready := func() int {
		for i := range d.Blocks {
			all := !delayAt(d, i) && !before[i]
			for _, arg := range partsOf(d, i) {
				all = all && (before[arg] || delayAt(d, arg))
			}
			if all {
				return i
			}
		}
		return -1
	}
	for _, i := range list {
		if i != ready() {
			return false
		}
		before[i] = true
	}
	return ready() < 0 && len(before) == len(list)
}

// indicesOf are the numbers of the elements that are true, ascending.
func indicesOf(list []bool) []int {
	var indices []int
	for i, is := range list {
		if is {
			indices = append(indices, i)
		}
	}
	return indices
}

func delaysOf(d api.Diagram) []int {
	is := make([]bool, len(d.Blocks))
	for i := range is {
		is[i] = delayAt(d, i)
	}
	return indicesOf(is)
}

// variesOf tells of each block whether it varies.
func variesOf(d api.Diagram) []bool {
	varies := make([]bool, len(d.Blocks))
	for i, on := range dependsOf(d, true) {
		for j, depends := range on {
			if depends && (d.Blocks[j].Kind == api.BlockInput || delayAt(d, j)) {
				varies[i] = true
			}
		}
	}
	return varies
}

func affineOf(d api.Diagram) bool {
	varies := variesOf(d)
	for _, b := range d.Blocks {
		switch b.Kind {
		case api.BlockMin, api.BlockMax, api.BlockAbs, api.BlockClip:
			return false
		case api.BlockMul:
			if varies[b.Args[0]] && varies[b.Args[1]] {
				return false
			}
		}
	}
	return true
}

// keptOf are the blocks on which an output depends over ticks.
func keptOf(d api.Diagram) []int {
	over := dependsOf(d, true)
	kept := make([]bool, len(d.Blocks))
	for _, out := range d.Outputs {
		for j := range kept {
			kept[j] = kept[j] || over[out][j]
		}
	}
	return indicesOf(kept)
}

// numberOf returns the number of a scalar as a fraction.
func numberOf(s api.Scalar) *big.Rat {
	r := new(big.Rat).SetInt64(int64(s.Num))
	power := new(big.Rat).SetInt(new(big.Int).Lsh(big.NewInt(1), uint(max(s.Exp, -s.Exp))))
	if s.Exp < 0 {
		return r.Quo(r, power)
	}
	return r.Mul(r, power)
}

// made is the chapter's example.
func made() api.Diagram {
	return api.Diagram{
		Inputs: []api.Port{{Lo: -8, Hi: 8}},
		Blocks: []api.Block{
			{Kind: api.BlockInput, Args: []int{0}},
			{Kind: api.BlockAdd, Args: []int{0, 2}},
			{Kind: api.BlockDelay, Args: []int{1}},
		},
		Outputs: []int{1},
	}
}

// every is a diagram with a block of each kind, in the order of the kinds, and some more of those with scalars.
func every() api.Diagram {
	one, half := api.Scalar{Num: 1}, api.Scalar{Num: 1, Exp: -1}
	return api.Diagram{
		Inputs: []api.Port{{Lo: -8, Hi: 8, Frac: 2}, {Lo: 0, Hi: 0}},
		Blocks: []api.Block{
			{Kind: api.BlockInput, Args: []int{1}},
			{Kind: api.BlockConst, Value: half},
			{Kind: api.BlockDelay, Args: []int{13}, Value: one},
			{Kind: api.BlockAdd, Args: []int{0, 2}},
			{Kind: api.BlockSub, Args: []int{3, 1}},
			{Kind: api.BlockNeg, Args: []int{4}},
			{Kind: api.BlockGain, Args: []int{5}, Value: half},
			{Kind: api.BlockMul, Args: []int{6, 1}},
			{Kind: api.BlockMin, Args: []int{7, 3}},
			{Kind: api.BlockMax, Args: []int{8, 12}},
			{Kind: api.BlockAbs, Args: []int{9}},
			{Kind: api.BlockClip, Args: []int{10}, Value: half, Upper: one},
			{Kind: api.BlockInput, Args: []int{0}},
			{Kind: api.BlockSub, Args: []int{11, 2}},
		},
		Outputs: []int{13, 3, 13},
	}
}

// small calls use with all diagrams of n blocks that are inputs, constants, delays, negatives or products; their outputs vary.
func small(n int, use func(d api.Diagram)) {
	var options []api.Block
	options = append(options, api.Block{Kind: api.BlockInput, Args: []int{0}}, api.Block{Kind: api.BlockConst})
	for i := range n {
		options = append(options, api.Block{Kind: api.BlockDelay, Args: []int{i}}, api.Block{Kind: api.BlockNeg, Args: []int{i}})
		for j := range n {
			options = append(options, api.Block{Kind: api.BlockMul, Args: []int{i, j}})
		}
	}
	count := 1
	for range n {
		count *= len(options)
	}
	for number := range count {
		d := api.Diagram{Inputs: []api.Port{{Hi: 1}}}
		for rest := number; len(d.Blocks) < n; rest /= len(options) {
			d.Blocks = append(d.Blocks, options[rest%len(options)])
		}
		for i := range n {
			if (number*7+number/8)>>i&1 == 1 {
				d.Outputs = append(d.Outputs, i)
			}
		}
		use(d)
	}
}

// diagrams are examples and random diagrams of all sizes, some of them with circles.
func diagrams(seed int64) []api.Diagram {
	r := rand.New(rand.NewSource(seed))
	list := []api.Diagram{{}, made(), every(), {Inputs: []api.Port{{}}}}
	for n := 1; n <= api.MaxBlocks; n++ {
		for range 24 {
			list = append(list, anyDiagram(r, n))
		}
	}
	return list
}

// anyDiagram returns a random diagram of n blocks. Most of their arguments are delays or come before them in a random order.
func anyDiagram(r *rand.Rand, n int) api.Diagram {
	d := api.Diagram{Blocks: make([]api.Block, n)}
	for range 1 + r.Intn(api.MaxPorts) {
		lo := r.Intn(1<<31) - 1<<31
		d.Inputs = append(d.Inputs, api.Port{Lo: lo, Hi: lo + r.Intn(1<<31), Frac: r.Intn(api.MaxFrac + 1)})
	}
	places := r.Perm(n)
	delays, bent, wild := r.Intn(4), r.Intn(3) == 0, r.Intn(3) == 0
	for place, i := range places {
		kind := r.Intn(api.BlockMul)
		if bent {
			kind = r.Intn(api.BlockClip + 1)
		}
		switch {
		case r.Intn(8) < delays:
			kind = api.BlockDelay
		case place == 0 && argsOf[kind] > 0:
			kind = api.BlockInput
		}
		before := places[:max(place, 1)]
		if kind == api.BlockDelay || wild && r.Intn(n) == 0 {
			before = places
		}
		d.Blocks[i] = anyBlock(r, kind, len(d.Inputs), before)
	}
	for range r.Intn(min(4, n) + 1) {
		d.Outputs = append(d.Outputs, r.Intn(n))
	}
	return d
}

// anyBlock returns a block of a kind with arguments among some ports or blocks.
func anyBlock(r *rand.Rand, kind, ports int, blocks []int) api.Block {
	b := api.Block{Kind: kind}
	for range argsOf[kind] {
		arg := blocks[r.Intn(len(blocks))]
		if kind == api.BlockInput {
			arg = r.Intn(ports)
		}
		b.Args = append(b.Args, arg)
	}
	switch kind {
	case api.BlockConst, api.BlockDelay, api.BlockGain:
		b.Value = anyScalar(r)
	case api.BlockClip:
		b.Value, b.Upper = anyScalar(r), anyScalar(r)
		if numberOf(b.Value).Cmp(numberOf(b.Upper)) > 0 {
			b.Value, b.Upper = b.Upper, b.Value
		}
	}
	return b
}

func anyScalar(r *rand.Rand) api.Scalar {
	limit := 1<<r.Intn(32) - 1
	return api.Scalar{Num: r.Intn(2*limit+1) - limit, Exp: r.Intn(93) - 62}
}

// accepted are those of the diagrams that have no circle.
func accepted(seed int64) []api.Diagram {
	return slices.DeleteFunc(diagrams(seed), circleOf)
}

// copied returns d in new memory.
func copied(d api.Diagram) api.Diagram {
	c := api.Diagram{Inputs: slices.Clone(d.Inputs), Blocks: slices.Clone(d.Blocks), Outputs: slices.Clone(d.Outputs)}
	for i := range c.Blocks {
		c.Blocks[i].Args = slices.Clone(c.Blocks[i].Args)
	}
	return c
}

// same reports whether two diagrams are equal, where an empty list is equal to none.
func same(a, b api.Diagram) bool {
	return slices.Equal(a.Inputs, b.Inputs) && slices.Equal(a.Outputs, b.Outputs) && slices.EqualFunc(a.Blocks, b.Blocks, sameBlock)
}

func sameBlock(a, b api.Block) bool {
	return a.Kind == b.Kind && slices.Equal(a.Args, b.Args) && a.Value == b.Value && a.Upper == b.Upper
}

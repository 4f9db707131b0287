package compile

import (
	"math/big"
	"math/rand"
	"slices"

	"commutator/api"
	"commutator/diagram"
)

// The first functions of this file follow the words of the chapter, in fractions; the other ones make diagrams and scales.

// scaled returns n * 2^exp.
func scaled(n, exp int) *big.Rat {
	return shifted(new(big.Rat).SetInt64(int64(n)), exp)
}

// shifted returns x * 2^exp.
func shifted(x *big.Rat, exp int) *big.Rat {
	power := new(big.Rat).SetInt(new(big.Int).Lsh(big.NewInt(1), uint(max(exp, -exp))))
	if exp < 0 {
		return power.Quo(x, power)
	}
	return power.Mul(x, power)
}

func scalarOf(s api.Scalar) *big.Rat {
	return scaled(s.Num, s.Exp)
}

// floorOf returns the greatest whole number that is at most x. Div rounds down, because denominators are positive.
func floorOf(x *big.Rat) *big.Int {
	return new(big.Int).Div(x.Num(), x.Denom())
}

func rawOf(s api.Scalar, f int) (int, error) {
	n := floorOf(shifted(scalarOf(s), f))
	if n.Cmp(big.NewInt(-1<<31)) < 0 || n.Cmp(big.NewInt(1<<31-1)) > 0 {
		return 0, api.ErrOverflow
	}
	return int(n.Int64()), nil
}

// blocksOf lists the blocks of a kind.
func blocksOf(d api.Diagram, kind int) []int {
	var list []int
	for i, b := range d.Blocks {
		if b.Kind == kind {
			list = append(list, i)
		}
	}
	return list
}

// scalarsOf lists the scalars whose raw values have to be 32-bit ints, block by block.
func scalarsOf(d api.Diagram, i int) []api.Scalar {
	b := d.Blocks[i]
	switch b.Kind {
	case api.BlockConst, api.BlockDelay:
		return []api.Scalar{b.Value}
	case api.BlockClip:
		return []api.Scalar{b.Value, b.Upper}
	}
	return nil
}

// initOf returns the initial contents of the cells; the cells of next values; and for each clip the cells of its bounds.
func initOf(d api.Diagram, f []int) (cells []int, next map[int]int, bounds map[int][2]int) {
	next, bounds = map[int]int{}, map[int][2]int{}
	raw := func(i int, s api.Scalar) int {
		n, _ := rawOf(s, f[i])
		return n
	}
	for i, b := range d.Blocks {
		if b.Kind == api.BlockDelay {
			cells = append(cells, raw(i, b.Value))
		} else {
			cells = append(cells, 0)
		}
	}
	for _, i := range blocksOf(d, api.BlockDelay) {
		next[i] = len(cells)
		cells = append(cells, 0)
	}
	for _, i := range blocksOf(d, api.BlockClip) {
		bounds[i] = [2]int{len(cells), len(cells) + 1}
		cells = append(cells, raw(i, d.Blocks[i].Value), raw(i, d.Blocks[i].Upper))
	}
	return cells, next, bounds
}

// blockOf returns the instructions of block i, which is no delay.
func blockOf(d api.Diagram, f []int, i int, bounds [2]int) []api.Instr {
	b := d.Blocks[i]
	if b.Kind == api.BlockConst {
		imm, _ := rawOf(b.Value, f[i])
		return []api.Instr{{Op: api.OpConst, Dst: i, Imm: imm}}
	}
	a := b.Args[0]
	if b.Kind == api.BlockInput {
		return []api.Instr{{Op: api.OpIn, Dst: i, A: a, Sa: f[i] - d.Inputs[a].Frac}}
	}
	fromA, two := f[i]-f[a], 0
	if len(b.Args) == 2 {
		two = b.Args[1]
	}
	both := api.Instr{Dst: i, A: a, B: two, Sa: fromA, Sb: f[i] - f[two]}
	one := api.Instr{Dst: i, A: a, Sa: fromA}
	switch b.Kind {
	case api.BlockAdd:
		both.Op = api.OpAdd
	case api.BlockSub:
		both.Op = api.OpSub
	case api.BlockMin:
		both.Op = api.OpMin
	case api.BlockMax:
		both.Op = api.OpMax
	case api.BlockNeg:
		one.Op = api.OpNeg
		return []api.Instr{one}
	case api.BlockAbs:
		one.Op = api.OpAbs
		return []api.Instr{one}
	case api.BlockGain:
		return []api.Instr{{Op: api.OpGain, Dst: i, A: a, Imm: b.Value.Num, Sa: f[i] - f[a] + b.Value.Exp}}
	case api.BlockMul:
		return []api.Instr{{Op: api.OpMul, Dst: i, A: a, B: two, Sa: f[i] - f[a] - f[two]}}
	case api.BlockClip:
		return []api.Instr{{Op: api.OpMax, Dst: i, A: a, Sa: fromA, B: bounds[0]}, {Op: api.OpMin, Dst: i, A: i, B: bounds[1]}}
	}
	return []api.Instr{both}
}

// programOf returns the program of a diagram that is accepted, with scales that are accepted.
func programOf(d api.Diagram, f []int) (api.Program, error) {
	for i := range d.Blocks {
		for _, s := range scalarsOf(d, i) {
			if _, err := rawOf(s, f[i]); err != nil {
				return api.Program{}, err
			}
		}
	}
	cells, next, bounds := initOf(d, f)
	p := api.Program{Ports: d.Inputs, Init: cells, Outputs: d.Outputs}
	order, err := diagram.Order(d)
	if err != nil {
		return api.Program{}, err
	}
	for _, i := range order {
		p.Code = append(p.Code, blockOf(d, f, i, bounds[i])...)
	}
	for _, i := range blocksOf(d, api.BlockDelay) {
		a := d.Blocks[i].Args[0]
		p.Code = append(p.Code, api.Instr{Op: api.OpMove, Dst: next[i], A: a, Sa: f[i] - f[a]})
	}
	for _, i := range blocksOf(d, api.BlockDelay) {
		p.Code = append(p.Code, api.Instr{Op: api.OpMove, Dst: i, A: next[i]})
	}
	for _, x := range p.Code {
		if min(x.Sa, x.Sb) < -62 || max(x.Sa, x.Sb) > 30 {
			return api.Program{}, api.ErrRange
		}
	}
	return p, nil
}

// resultOf returns the exact result of block i, which is no delay, for exact values of its arguments, as layer 10's table says.
func resultOf(d api.Diagram, i int, in []int, value func(int) *big.Rat) *big.Rat {
	b := d.Blocks[i]
	if b.Kind == api.BlockInput {
		return scaled(in[b.Args[0]], -d.Inputs[b.Args[0]].Frac)
	}
	var args []*big.Rat
	for _, arg := range b.Args {
		args = append(args, value(arg))
	}
	y := new(big.Rat)
	switch b.Kind {
	case api.BlockConst:
		return scalarOf(b.Value)
	case api.BlockAdd:
		return y.Add(args[0], args[1])
	case api.BlockSub:
		return y.Sub(args[0], args[1])
	case api.BlockNeg:
		return y.Neg(args[0])
	case api.BlockGain:
		return y.Mul(scalarOf(b.Value), args[0])
	case api.BlockMul:
		return y.Mul(args[0], args[1])
	case api.BlockMin:
		return slices.MinFunc(args, (*big.Rat).Cmp)
	case api.BlockMax:
		return slices.MaxFunc(args, (*big.Rat).Cmp)
	case api.BlockAbs:
		return y.Abs(args[0])
	case api.BlockClip:
		list := []*big.Rat{scalarOf(b.Value), args[0], scalarOf(b.Upper)}
		slices.SortFunc(list, (*big.Rat).Cmp)
		return list[1]
	}
	panic("a delay")
}

// fractionOf returns the number that a valid Dyadic stands for.
func fractionOf(a api.Dyadic) *big.Rat {
	n := new(big.Int)
	for i := len(a.Words) - 1; i >= 0; i-- {
		n.Lsh(n, 32)
		n.Or(n, new(big.Int).SetUint64(uint64(a.Words[i])))
	}
	if a.Neg {
		n.Neg(n)
	}
	return new(big.Rat).SetFrac(n, new(big.Int).Lsh(big.NewInt(1), uint(a.Den)))
}

// filter is the chapter's example.
func filter() api.Diagram {
	return api.Diagram{
		Inputs: []api.Port{{Lo: -1, Hi: 1}},
		Blocks: []api.Block{
			{Kind: api.BlockInput, Args: []int{0}},
			{Kind: api.BlockGain, Args: []int{3}, Value: api.Scalar{Num: 1, Exp: -1}},
			{Kind: api.BlockAdd, Args: []int{0, 1}},
			{Kind: api.BlockDelay, Args: []int{2}},
		},
		Outputs: []int{2},
	}
}

// everyKind has a block of every kind, in an order in which they cannot be evaluated, with two delays and two clips.
func everyKind() api.Diagram {
	return api.Diagram{
		Inputs: []api.Port{{Lo: -50, Hi: 60, Frac: 3}, {Lo: 1, Hi: 2, Frac: 1}},
		Blocks: []api.Block{
			{Kind: api.BlockDelay, Args: []int{8}, Value: api.Scalar{Num: -9, Exp: -2}},
			{Kind: api.BlockAdd, Args: []int{13, 0}},
			{Kind: api.BlockSub, Args: []int{1, 12}},
			{Kind: api.BlockNeg, Args: []int{2}},
			{Kind: api.BlockGain, Args: []int{3}, Value: api.Scalar{Num: -5, Exp: -1}},
			{Kind: api.BlockMul, Args: []int{4, 13}},
			{Kind: api.BlockClip, Args: []int{5}, Value: api.Scalar{Num: -7}, Upper: api.Scalar{Num: 19, Exp: -1}},
			{Kind: api.BlockMin, Args: []int{6, 12}},
			{Kind: api.BlockMax, Args: []int{7, 14}},
			{Kind: api.BlockDelay, Args: []int{0}, Value: api.Scalar{Num: 3, Exp: 1}},
			{Kind: api.BlockAbs, Args: []int{9}},
			{Kind: api.BlockClip, Args: []int{10}, Value: api.Scalar{Num: 1}, Upper: api.Scalar{Num: 2}},
			{Kind: api.BlockConst, Value: api.Scalar{Num: 11, Exp: -2}},
			{Kind: api.BlockInput, Args: []int{0}},
			{Kind: api.BlockInput, Args: []int{1}},
		},
		Outputs: []int{9, 5, 0, 11, 5},
	}
}

// argsOf is the number of arguments of each kind of block.
var argsOf = [12]int{1, 0, 1, 2, 2, 1, 1, 2, 2, 2, 1, 1}

// style is how ports and scalars of random diagrams are made.
type style struct {
	port   func(r *rand.Rand) api.Port
	scalar func(r *rand.Rand) api.Scalar
}

// wild numbers may be any that are accepted.
var wild = style{
	port: func(r *rand.Rand) api.Port {
		return api.Port{Lo: -r.Intn(1 << 31), Hi: r.Intn(1 << 31), Frac: r.Intn(api.MaxFrac + 1)}
	},
	scalar: func(r *rand.Rand) api.Scalar {
		limit := 1<<r.Intn(32) - 1
		return api.Scalar{Num: r.Intn(2*limit+1) - limit, Exp: r.Intn(93) - 62}
	},
}

// calm numbers are of a few units, with fractions of all lengths.
var calm = style{
	port: func(r *rand.Rand) api.Port {
		frac := r.Intn(25)
		return api.Port{Lo: -3 << frac, Hi: 5 << frac, Frac: frac}
	},
	scalar: func(r *rand.Rand) api.Scalar {
		bits := r.Intn(31)
		return api.Scalar{Num: r.Intn(2<<bits+1) - 1<<bits, Exp: r.Intn(3) - bits}
	},
}

// short numbers are of a few units, with fractions of two bits.
var short = style{
	port:   func(r *rand.Rand) api.Port { return api.Port{Lo: -13, Hi: 9, Frac: r.Intn(3)} },
	scalar: func(r *rand.Rand) api.Scalar { return api.Scalar{Num: r.Intn(17) - 8, Exp: r.Intn(5) - 2} },
}

// whole numbers, some of which are written with an Exp below 0.
var whole = style{
	port: func(r *rand.Rand) api.Port { return api.Port{Lo: -r.Intn(100), Hi: r.Intn(100)} },
	scalar: func(r *rand.Rand) api.Scalar {
		n := r.Intn(11) - 5
		switch exp := r.Intn(20); r.Intn(4) {
		case 0:
			return api.Scalar{Num: n << exp, Exp: -exp}
		case 1:
			return api.Scalar{Num: n, Exp: r.Intn(8)}
		}
		return api.Scalar{Num: n}
	},
}

// anyDiagram returns a random diagram of n blocks without a circle.
func anyDiagram(r *rand.Rand, n int, numbers style) api.Diagram {
	d := api.Diagram{Blocks: make([]api.Block, n)}
	for range 1 + r.Intn(api.MaxPorts) {
		d.Inputs = append(d.Inputs, numbers.port(r))
	}
	places := r.Perm(n)
	for place, i := range places {
		kind := r.Intn(api.BlockClip + 1)
		before := places[:place]
		if kind == api.BlockDelay {
			before = places
		} else if place == 0 && argsOf[kind] > 0 {
			kind = api.BlockInput
		}
		d.Blocks[i] = anyBlock(r, kind, len(d.Inputs), before, numbers)
	}
	for range r.Intn(api.MaxOuts + 1) {
		d.Outputs = append(d.Outputs, r.Intn(n))
	}
	return d
}

// anyBlock returns a block of a kind with arguments among some ports or blocks.
func anyBlock(r *rand.Rand, kind, ports int, blocks []int, numbers style) api.Block {
	b := api.Block{Kind: kind}
	for range argsOf[kind] {
		if kind == api.BlockInput {
			b.Args = append(b.Args, r.Intn(ports))
		} else {
			b.Args = append(b.Args, blocks[r.Intn(len(blocks))])
		}
	}
	switch kind {
	case api.BlockConst, api.BlockDelay, api.BlockGain:
		b.Value = numbers.scalar(r)
	case api.BlockClip:
		b.Value, b.Upper = numbers.scalar(r), numbers.scalar(r)
		if scalarOf(b.Value).Cmp(scalarOf(b.Upper)) > 0 {
			b.Value, b.Upper = b.Upper, b.Value
		}
	}
	return b
}

// diagrams are examples and random diagrams of all sizes up to most.
func diagrams(r *rand.Rand, most, each int, numbers style) []api.Diagram {
	list := []api.Diagram{{}, {Inputs: []api.Port{{}}}}
	for n := 1; n <= most; n++ {
		for range each {
			list = append(list, anyDiagram(r, n, numbers))
		}
	}
	return list
}

// anyScales returns n scales from least to most.
func anyScales(r *rand.Rand, n, least, most int) []int {
	var f []int
	for range n {
		f = append(f, least+r.Intn(most-least+1))
	}
	return f
}

// anyIn returns inputs in the ranges of the ports, often at their ends.
func anyIn(r *rand.Rand, ports []api.Port) []int {
	var in []int
	for _, p := range ports {
		in = append(in, []int{p.Lo, p.Hi, p.Lo + r.Intn(p.Hi-p.Lo+1)}[r.Intn(3)])
	}
	return in
}

// copied returns d in new memory.
func copied(d api.Diagram) api.Diagram {
	c := api.Diagram{Inputs: slices.Clone(d.Inputs), Blocks: slices.Clone(d.Blocks), Outputs: slices.Clone(d.Outputs)}
	for i := range c.Blocks {
		c.Blocks[i].Args = slices.Clone(c.Blocks[i].Args)
	}
	return c
}

func sameDiagram(a, b api.Diagram) bool {
	return slices.Equal(a.Inputs, b.Inputs) && slices.Equal(a.Outputs, b.Outputs) && slices.EqualFunc(a.Blocks, b.Blocks, func(a, b api.Block) bool {
		return a.Kind == b.Kind && slices.Equal(a.Args, b.Args) && a.Value == b.Value && a.Upper == b.Upper
	})
}

func copiedProgram(p api.Program) api.Program {
	return api.Program{Ports: slices.Clone(p.Ports), Init: slices.Clone(p.Init), Code: slices.Clone(p.Code), Outputs: slices.Clone(p.Outputs)}
}

func sameProgram(a, b api.Program) bool {
	return slices.Equal(a.Ports, b.Ports) && slices.Equal(a.Init, b.Init) && slices.Equal(a.Code, b.Code) && slices.Equal(a.Outputs, b.Outputs)
}

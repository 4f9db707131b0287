package exact

import (
	"math/big"
	"math/rand"
	"slices"

	"commutator/api"
	"commutator/diagram"
)

// The first functions of this file follow the words of the chapter, in fractions; the other ones make diagrams, states and inputs.

func scaled(n, exp int) *big.Rat {
	r := new(big.Rat).SetInt64(int64(n))
	power := new(big.Rat).SetInt(new(big.Int).Lsh(big.NewInt(1), uint(max(exp, -exp))))
	if exp < 0 {
		return r.Quo(r, power)
	}
	return r.Mul(r, power)
}

func scalarOf(s api.Scalar) *big.Rat {
	return scaled(s.Num, s.Exp)
}

// fractionOf returns the number that a valid Dyadic stands for.
func fractionOf(a api.Dyadic) *big.Rat {
	n := new(big.Int)
	for i := len(a.Words) - 1; i >= 0; i-- {
		n.Lsh(n, 32)
		n.Or(n, new(big.Int).SetUint64(uint64(a.Words[i])))
	}
	if a.Neg {
		n.Neg(n)
	}
	return new(big.Rat).SetFrac(n, new(big.Int).Lsh(big.NewInt(1), uint(a.Den)))
}

// dyadicOf returns the valid form of a fraction with a power of two as its denominator.
func dyadicOf(r *big.Rat) api.Dyadic {
	a := api.Dyadic{Neg: r.Sign() < 0, Den: r.Denom().BitLen() - 1}
	for n := new(big.Int).Abs(r.Num()); n.Sign() > 0; n.Rsh(n, 32) {
		a.Words = append(a.Words, uint32(new(big.Int).And(n, big.NewInt(1<<32-1)).Uint64()))
	}
	return a
}

func dyadicsOf(list []*big.Rat) []api.Dyadic {
	numbers := make([]api.Dyadic, len(list))
	for i, r := range list {
		numbers[i] = dyadicOf(r)
	}
	return numbers
}

func lengthOf(r *big.Rat) int {
	return max(r.Num().BitLen(), r.Denom().BitLen()-1)
}

func delaysOf(d api.Diagram) []int {
	var list []int
	for i, b := range d.Blocks {
		if b.Kind == api.BlockDelay {
			list = append(list, i)
		}
	}
	return list
}

func startOf(d api.Diagram) []*big.Rat {
	var state []*big.Rat
	for _, i := range delaysOf(d) {
		state = append(state, scalarOf(d.Blocks[i].Value))
	}
	return state
}

// tickOf is a tick of a diagram: its values as far as they are known.
type tickOf struct {
	d      api.Diagram
	in     []int
	values []*big.Rat
	long   bool
}

// value returns the value of block i; nil if it, or one that it needs, is too long.
func (k *tickOf) value(i int) *big.Rat {
	if k.values[i] == nil && !k.long {
		k.values[i] = k.equation(i, k.value)
		k.long = k.long || lengthOf(k.values[i]) > api.MaxBits
	}
	if k.long {
		return new(big.Rat)
	}
	return k.values[i]
}

// equation returns the value of block i, which is no delay, by those of its arguments, as layer 10's table says.
func (k *tickOf) equation(i int, value func(int) *big.Rat) *big.Rat {
	b := k.d.Blocks[i]
	if b.Kind == api.BlockInput {
		return scaled(k.in[b.Args[0]], -k.d.Inputs[b.Args[0]].Frac)
	}
	var args []*big.Rat
	for _, arg := range b.Args {
		args = append(args, value(arg))
	}
	r := new(big.Rat)
	switch b.Kind {
	case api.BlockConst:
		return scalarOf(b.Value)
	case api.BlockAdd:
		return r.Add(args[0], args[1])
	case api.BlockSub:
		return r.Sub(args[0], args[1])
	case api.BlockNeg:
		return r.Neg(args[0])
	case api.BlockGain:
		return r.Mul(scalarOf(b.Value), args[0])
	case api.BlockMul:
		return r.Mul(args[0], args[1])
	case api.BlockMin:
		return slices.MinFunc(args, (*big.Rat).Cmp)
	case api.BlockMax:
		return slices.MaxFunc(args, (*big.Rat).Cmp)
	case api.BlockAbs:
		return r.Abs(args[0])
	case api.BlockClip:
		if args[0].Cmp(scalarOf(b.Value)) < 0 {
			return scalarOf(b.Value)
		}
		if args[0].Cmp(scalarOf(b.Upper)) > 0 {
			return scalarOf(b.Upper)
		}
		return args[0]
	}
	panic("a delay")
}

// stepOf returns the state of the next tick and the values of this one, or false if one of them is too long.
func stepOf(d api.Diagram, state []*big.Rat, in []int) (next, values []*big.Rat, ok bool) {
	k := &tickOf{d: d, in: in, values: make([]*big.Rat, len(d.Blocks))}
	for place, i := range delaysOf(d) {
		k.values[i] = state[place]
		k.long = k.long || lengthOf(state[place]) > api.MaxBits
	}
	for i := range d.Blocks {
		k.value(i)
	}
	if k.long {
		return nil, nil, false
	}
	for _, i := range delaysOf(d) {
		next = append(next, k.values[d.Blocks[i].Args[0]])
	}
	return next, k.values, true
}

// runOf returns the values of the outputs in all ticks, or false if a value is too long.
func runOf(d api.Diagram, list [][]int) (outputs [][]api.Dyadic, ok bool) {
	state := startOf(d)
	for _, in := range list {
		next, values, ok := stepOf(d, state, in)
		if !ok {
			return nil, false
		}
		var row []api.Dyadic
		for _, i := range d.Outputs {
			row = append(row, dyadicOf(values[i]))
		}
		outputs = append(outputs, row)
		state = next
	}
	return outputs, true
}

func sameNumber(a, b api.Dyadic) bool {
	return a.Neg == b.Neg && a.Den == b.Den && slices.Equal(a.Words, b.Words)
}

func sameNumbers(a, b []api.Dyadic) bool {
	return slices.EqualFunc(a, b, sameNumber)
}

func sameRows(a, b [][]api.Dyadic) bool {
	return slices.EqualFunc(a, b, sameNumbers)
}

// made is the chapter's example.
func made() api.Diagram {
	return api.Diagram{
		Inputs: []api.Port{{Lo: -8, Hi: 8}},
		Blocks: []api.Block{
			{Kind: api.BlockInput, Args: []int{0}},
			{Kind: api.BlockAdd, Args: []int{0, 2}},
			{Kind: api.BlockDelay, Args: []int{1}},
		},
		Outputs: []int{1},
	}
}

// squares is a diagram with a delay of its own square plus an input, and with a chain of two more delays behind it; its other input is not used.
func squares() api.Diagram {
	return api.Diagram{
		Inputs: []api.Port{{Lo: -3, Hi: 4, Frac: 1}, {Lo: 7, Hi: 7}},
		Blocks: []api.Block{
			{Kind: api.BlockDelay, Args: []int{3}, Value: api.Scalar{Num: 3}},
			{Kind: api.BlockMul, Args: []int{0, 0}},
			{Kind: api.BlockDelay, Args: []int{0}, Value: api.Scalar{Num: -5, Exp: -1}},
			{Kind: api.BlockAdd, Args: []int{1, 4}},
			{Kind: api.BlockInput, Args: []int{0}},
			{Kind: api.BlockDelay, Args: []int{2}},
		},
		Outputs: []int{5, 2, 5, 4},
	}
}

// argsOf is the number of arguments of each kind of block.
var argsOf = [12]int{1, 0, 1, 2, 2, 1, 1, 2, 2, 2, 1, 1}

// anyKind returns a kind of block; few are products, or, for long values, many are products or delays.
func anyKind(r *rand.Rand, affine, long bool) int {
	kind := r.Intn(api.BlockClip + 1)
	switch {
	case affine && kind >= api.BlockMul:
		return r.Intn(api.BlockMul)
	case long && r.Intn(2) == 0:
		return [2]int{api.BlockMul, api.BlockDelay}[r.Intn(2)]
	case kind == api.BlockMul && r.Intn(3) > 0:
		return api.BlockAdd
	}
	return kind
}

// anyDiagram returns a random diagram of n blocks without a circle.
func anyDiagram(r *rand.Rand, n int, affine bool) api.Diagram {
	d := api.Diagram{Blocks: make([]api.Block, n)}
	for range 1 + r.Intn(api.MaxPorts) {
		half := r.Intn(1 << r.Intn(32))
		d.Inputs = append(d.Inputs, api.Port{Lo: -half - r.Intn(2), Hi: half, Frac: r.Intn(api.MaxFrac + 1)})
	}
	places, long := r.Perm(n), !affine && r.Intn(2) == 0
	for place, i := range places {
		kind := anyKind(r, affine, long)
		before := places[:place]
		if kind == api.BlockDelay {
			before = places
		} else if place == 0 && argsOf[kind] > 0 {
			kind = api.BlockInput
		}
		d.Blocks[i] = anyBlock(r, kind, len(d.Inputs), before)
	}
	for range r.Intn(api.MaxOuts + 1) {
		d.Outputs = append(d.Outputs, r.Intn(n))
	}
	if affine {
		addProducts(r, &d)
	}
	return d
}

// anyBlock returns a block of a kind with arguments among some ports or blocks.
func anyBlock(r *rand.Rand, kind, ports int, blocks []int) api.Block {
	b := api.Block{Kind: kind}
	for range argsOf[kind] {
		if kind == api.BlockInput {
			b.Args = append(b.Args, r.Intn(ports))
		} else {
			b.Args = append(b.Args, blocks[r.Intn(len(blocks))])
		}
	}
	switch kind {
	case api.BlockConst, api.BlockDelay, api.BlockGain:
		b.Value = anyScalar(r)
	case api.BlockClip:
		b.Value, b.Upper = anyScalar(r), anyScalar(r)
		if scalarOf(b.Value).Cmp(scalarOf(b.Upper)) > 0 {
			b.Value, b.Upper = b.Upper, b.Value
		}
	}
	return b
}

// addProducts makes products of some sums and differences, as far as the diagram stays affine.
func addProducts(r *rand.Rand, d *api.Diagram) {
	for i := range d.Blocks {
		b := &d.Blocks[i]
		if kind := b.Kind; kind == api.BlockAdd || kind == api.BlockSub {
			b.Kind = api.BlockMul
			if is, err := diagram.Affine(*d); !is || err != nil || r.Intn(4) == 0 {
				b.Kind = kind
			}
		}
	}
}

// anyScalar returns a scalar, most often a small one.
func anyScalar(r *rand.Rand) api.Scalar {
	limit := 1<<r.Intn(32) - 1
	s := api.Scalar{Num: r.Intn(2*limit+1) - limit, Exp: r.Intn(93) - 62}
	if r.Intn(2) == 0 {
		s.Num, s.Exp = r.Intn(17)-8, r.Intn(9)-6
	}
	return s
}

// anyInputs returns inputs for n ticks, all of them in ports divided by parts.
func anyInputs(r *rand.Rand, d api.Diagram, n, parts int) [][]int {
	list := make([][]int, n)
	for tick := range list {
		for _, port := range d.Inputs {
			lo, hi := port.Lo/parts, port.Hi/parts
			x := lo + r.Intn(hi-lo+1)
			if r.Intn(8) == 0 {
				x = [2]int{lo, hi}[r.Intn(2)]
			}
			list[tick] = append(list[tick], x)
		}
	}
	return list
}

// anyState returns a number for each delay, all of about the same length, which seldom is too great.
func anyState(r *rand.Rand, d api.Diagram) []*big.Rat {
	var state []*big.Rat
	bits := 1 << r.Intn(13)
	if r.Intn(8) == 0 {
		bits = api.MaxBits - r.Intn(2)
	}
	for range delaysOf(d) {
		n := new(big.Int).Rand(r, new(big.Int).Lsh(big.NewInt(1), uint(bits)))
		if r.Intn(2) == 0 {
			n.Neg(n)
		}
		den := new(big.Int).Lsh(big.NewInt(1), uint(r.Intn(bits+1)))
		state = append(state, new(big.Rat).SetFrac(n, den))
	}
	return state
}

// diagrams are examples and random diagrams of all sizes, or of small ones only.
func diagrams(seed int64, most int, affine bool) []api.Diagram {
	r := rand.New(rand.NewSource(seed))
	list := []api.Diagram{{}, made(), {Inputs: []api.Port{{}}}}
	for n := 1; n <= most; n++ {
		for range 12 {
			list = append(list, anyDiagram(r, n, affine))
		}
	}
	return list
}

// renumbered returns d with block i as block place[i].
func renumbered(d api.Diagram, place []int) api.Diagram {
	c := copied(d)
	for i, b := range copied(d).Blocks {
		if b.Kind != api.BlockInput {
			for j, arg := range b.Args {
				b.Args[j] = place[arg]
			}
		}
		c.Blocks[place[i]] = b
	}
	for i, out := range d.Outputs {
		c.Outputs[i] = place[out]
	}
	return c
}

// copied returns d in new memory.
func copied(d api.Diagram) api.Diagram {
	c := api.Diagram{Inputs: slices.Clone(d.Inputs), Blocks: slices.Clone(d.Blocks), Outputs: slices.Clone(d.Outputs)}
	for i := range c.Blocks {
		c.Blocks[i].Args = slices.Clone(c.Blocks[i].Args)
	}
	return c
}

func sameDiagram(a, b api.Diagram) bool {
	return slices.Equal(a.Inputs, b.Inputs) && slices.Equal(a.Outputs, b.Outputs) && slices.EqualFunc(a.Blocks, b.Blocks, func(a, b api.Block) bool {
		return a.Kind == b.Kind && slices.Equal(a.Args, b.Args) && a.Value == b.Value && a.Upper == b.Upper
	})
}

package ranges

import (
	"math/big"
	"math/rand"
	"slices"

	"commutator/api"
)

// The first functions of this file follow the words of the chapter, in fractions; the other ones make diagrams and invariants.

// span is an interval of fractions.
type span struct{ lo, hi *big.Rat }

func scaled(n, exp int) *big.Rat {
	r := new(big.Rat).SetInt64(int64(n))
	power := new(big.Rat).SetInt(new(big.Int).Lsh(big.NewInt(1), uint(max(exp, -exp))))
	if exp < 0 {
		return r.Quo(r, power)
	}
	return r.Mul(r, power)
}

func scalarOf(s api.Scalar) *big.Rat {
	return scaled(s.Num, s.Exp)
}

// fractionOf returns the number that a valid Dyadic stands for.
func fractionOf(a api.Dyadic) *big.Rat {
	n := new(big.Int)
	for i := len(a.Words) - 1; i >= 0; i-- {
		n.Lsh(n, 32)
		n.Or(n, new(big.Int).SetUint64(uint64(a.Words[i])))
	}
	if a.Neg {
		n.Neg(n)
	}
	return new(big.Rat).SetFrac(n, new(big.Int).Lsh(big.NewInt(1), uint(a.Den)))
}

// dyadicOf returns the valid form of a fraction with a power of two as its denominator.
func dyadicOf(r *big.Rat) api.Dyadic {
	a := api.Dyadic{Neg: r.Sign() < 0, Den: r.Denom().BitLen() - 1}
	for n := new(big.Int).Abs(r.Num()); n.Sign() > 0; n.Rsh(n, 32) {
		a.Words = append(a.Words, uint32(new(big.Int).And(n, big.NewInt(1<<32-1)).Uint64()))
	}
	return a
}

func spansOf(list []api.Interval) []span {
	var spans []span
	for _, a := range list {
		spans = append(spans, span{fractionOf(a.Lo), fractionOf(a.Hi)})
	}
	return spans
}

func intervalsOf(spans []span) []api.Interval {
	var list []api.Interval
	for _, s := range spans {
		list = append(list, api.Interval{Lo: dyadicOf(s.lo), Hi: dyadicOf(s.hi)})
	}
	return list
}

// hullOf returns the least span that contains the numbers.
func hullOf(numbers ...*big.Rat) span {
	return span{slices.MinFunc(numbers, (*big.Rat).Cmp), slices.MaxFunc(numbers, (*big.Rat).Cmp)}
}

func (s span) contains(x *big.Rat) bool {
	return s.lo.Cmp(x) <= 0 && x.Cmp(s.hi) <= 0
}

func (s span) long() bool {
	return max(s.lo.Num().BitLen(), s.lo.Denom().BitLen()-1, s.hi.Num().BitLen(), s.hi.Denom().BitLen()-1) > api.MaxBits
}

func delaysOf(d api.Diagram) []int {
	var list []int
	for i, b := range d.Blocks {
		if b.Kind == api.BlockDelay {
			list = append(list, i)
		}
	}
	return list
}

// valueOf returns the value of a block with the arguments x and y, as layer 10's table says.
func valueOf(b api.Block, x, y *big.Rat) *big.Rat {
	r := new(big.Rat)
	switch b.Kind {
	case api.BlockAdd:
		return r.Add(x, y)
	case api.BlockSub:
		return r.Sub(x, y)
	case api.BlockNeg:
		return r.Neg(x)
	case api.BlockGain:
		return r.Mul(scalarOf(b.Value), x)
	case api.BlockMul:
		return r.Mul(x, y)
	case api.BlockMin:
		return hullOf(x, y).lo
	case api.BlockMax:
		return hullOf(x, y).hi
	case api.BlockAbs:
		return r.Abs(x)
	case api.BlockClip:
		if x.Cmp(scalarOf(b.Value)) < 0 {
			return scalarOf(b.Value)
		}
		return hullOf(x, scalarOf(b.Upper)).lo
	}
	panic("a block without arguments")
}

// blockRangeOf returns the span of a block with the spans x and y of its arguments. All kinds are monotone or linear in each of
// their arguments, so that the values at the ends suffice; only an absolute value is least at 0.
func blockRangeOf(b api.Block, x, y span) span {
	var values []*big.Rat
	for _, p := range []*big.Rat{x.lo, x.hi} {
		for _, q := range []*big.Rat{y.lo, y.hi} {
			values = append(values, valueOf(b, p, q))
		}
	}
	if zero := new(big.Rat); b.Kind == api.BlockAbs && x.contains(zero) {
		values = append(values, zero)
	}
	return hullOf(values...)
}

// rangesOf returns the ranges of all blocks, or false if one of them is too long.
func rangesOf(d api.Diagram, inv []span) ([]span, bool) {
	spans, known, ok := make([]span, len(d.Blocks)), make([]bool, len(d.Blocks)), true
	for place, i := range delaysOf(d) {
		spans[i], known[i] = inv[place], true
		ok = ok && !inv[place].long()
	}
	var find func(i int) span
	find = func(i int) span {
		if known[i] || !ok {
			return spans[i]
		}
		switch b := d.Blocks[i]; b.Kind {
		case api.BlockInput:
			port := d.Inputs[b.Args[0]]
			spans[i] = span{scaled(port.Lo, -port.Frac), scaled(port.Hi, -port.Frac)}
		case api.BlockConst:
			spans[i] = span{scalarOf(b.Value), scalarOf(b.Value)}
		default:
			if x, y := find(b.Args[0]), find(b.Args[len(b.Args)-1]); ok {
				spans[i] = blockRangeOf(b, x, y)
			}
		}
		known[i] = true
		ok = ok && !spans[i].long()
		return spans[i]
	}
	for i := range d.Blocks {
		find(i)
	}
	return spans, ok
}

func startOf(d api.Diagram) []span {
	var inv []span
	for _, i := range delaysOf(d) {
		inv = append(inv, hullOf(scalarOf(d.Blocks[i].Value)))
	}
	return inv
}

// closedOf reports whether the invariants are closed, if the ranges for them are spans.
func closedOf(d api.Diagram, inv, spans []span) bool {
	for place, start := range startOf(d) {
		arg := spans[d.Blocks[delaysOf(d)[place]].Args[0]]
		if !inv[place].contains(start.lo) || !inv[place].contains(arg.lo) || !inv[place].contains(arg.hi) {
			return false
		}
	}
	return true
}

// floorOf returns the greatest multiple of 2^-64 that is at most x.
func floorOf(x *big.Rat) *big.Rat {
	n := new(big.Int).Lsh(x.Num(), 64)
	return new(big.Rat).SetFrac(n.Div(n, x.Denom()), new(big.Int).Lsh(big.NewInt(1), 64))
}

func negOf(x *big.Rat) *big.Rat {
	return new(big.Rat).Neg(x)
}

// stepsOf are the numbers to which ends go further outward, ascending, as far as they count.
func stepsOf() []*big.Rat {
	list := []*big.Rat{new(big.Rat)}
	for k := -30; k <= 41; k++ {
		list = append(list, scaled(1, k))
		list = slices.Insert(list, 0, scaled(-1, k))
	}
	return list
}

// upOf returns the least one of the steps that is not below x, or x if it is beyond them, and so beyond the limit.
func upOf(steps []*big.Rat, x *big.Rat) *big.Rat {
	for _, step := range steps {
		if step.Cmp(x) >= 0 {
			return step
		}
	}
	return x
}

// downOf returns the greatest one of the steps that is not above x, or x.
func downOf(steps []*big.Rat, x *big.Rat) *big.Rat {
	below := x
	for _, step := range steps {
		if step.Cmp(x) <= 0 {
			below = step
		}
	}
	return below
}

// inferOf returns what Infer is to return, and the number of rounds that changed something.
func inferOf(d api.Diagram, rounds int) (inv []span, changes int, err error) {
	steps, limit := stepsOf(), scaled(1, 40)
	for inv = startOf(d); ; changes++ {
		for _, s := range inv {
			if s.lo.Cmp(negOf(limit)) < 0 || s.hi.Cmp(limit) > 0 {
				return nil, changes, api.ErrUnknown
			}
		}
		spans, ok := rangesOf(d, inv)
		if !ok {
			return nil, changes, api.ErrLarge
		}
		var next []span
		changed := false
		for place, i := range delaysOf(d) {
			old, arg := inv[place], spans[d.Blocks[i].Args[0]]
			hull := hullOf(old.lo, old.hi, arg.lo, arg.hi)
			s := span{floorOf(hull.lo), negOf(floorOf(negOf(hull.hi)))}
			if s.lo.Cmp(old.lo) != 0 {
				changed = true
				if changes >= rounds {
					s.lo = downOf(steps, s.lo)
				}
			}
			if s.hi.Cmp(old.hi) != 0 {
				changed = true
				if changes >= rounds {
					s.hi = upOf(steps, s.hi)
				}
			}
			next = append(next, s)
		}
		if !changed {
			return inv, changes, nil
		}
		inv = next
	}
}

func sameNumber(a, b api.Dyadic) bool {
	return a.Neg == b.Neg && a.Den == b.Den && slices.Equal(a.Words, b.Words)
}

func sameRanges(a, b []api.Interval) bool {
	return slices.EqualFunc(a, b, func(a, b api.Interval) bool {
		return sameNumber(a.Lo, b.Lo) && sameNumber(a.Hi, b.Hi)
	})
}

// filter is the chapter's example.
func filter() api.Diagram {
	return api.Diagram{
		Inputs: []api.Port{{Lo: -1, Hi: 1}},
		Blocks: []api.Block{
			{Kind: api.BlockInput, Args: []int{0}},
			{Kind: api.BlockGain, Args: []int{3}, Value: api.Scalar{Num: 1, Exp: -1}},
			{Kind: api.BlockAdd, Args: []int{0, 1}},
			{Kind: api.BlockDelay, Args: []int{2}},
		},
		Outputs: []int{2},
	}
}

// argsOf is the number of arguments of each kind of block.
var argsOf = [12]int{1, 0, 1, 2, 2, 1, 1, 2, 2, 2, 1, 1}

// The styles of random diagrams: signals that mostly stay bounded, some of all kinds, and many products.
const (
	tame = iota
	mixed
	long
	styles
)

func anyKind(r *rand.Rand, style int) int {
	kind := r.Intn(api.BlockClip + 1)
	switch {
	case style == tame && r.Intn(2) == 0:
		return [4]int{api.BlockDelay, api.BlockClip, api.BlockGain, api.BlockMin}[r.Intn(4)]
	case style == long && r.Intn(4) > 0:
		return api.BlockMul
	case style != long && kind == api.BlockMul && r.Intn(3) > 0:
		return api.BlockAdd
	}
	return kind
}

// anyDiagram returns a random diagram of n blocks without a circle.
func anyDiagram(r *rand.Rand, n, style int) api.Diagram {
	d := api.Diagram{Blocks: make([]api.Block, n)}
	for range 1 + r.Intn(api.MaxPorts) {
		half := r.Intn(1 << r.Intn(32))
		d.Inputs = append(d.Inputs, api.Port{Lo: -half - r.Intn(2), Hi: half >> r.Intn(4), Frac: r.Intn(api.MaxFrac + 1)})
	}
	places := r.Perm(n)
	for place, i := range places {
		kind := anyKind(r, style)
		before := places[:place]
		if kind == api.BlockDelay {
			before = places
		} else if place == 0 && argsOf[kind] > 0 {
			kind = api.BlockInput
		}
		d.Blocks[i] = anyBlock(r, kind, len(d.Inputs), before, style)
	}
	for range r.Intn(api.MaxOuts + 1) {
		d.Outputs = append(d.Outputs, r.Intn(n))
	}
	return d
}

// anyBlock returns a block of a kind with arguments among some ports or blocks.
func anyBlock(r *rand.Rand, kind, ports int, blocks []int, style int) api.Block {
	b := api.Block{Kind: kind}
	for range argsOf[kind] {
		if kind == api.BlockInput {
			b.Args = append(b.Args, r.Intn(ports))
		} else {
			b.Args = append(b.Args, blocks[r.Intn(len(blocks))])
		}
	}
	if style == long && kind == api.BlockMul {
		// Products of products soon get long.
		b.Args[0] = blocks[max(0, len(blocks)-1-r.Intn(3))]
	}
	switch kind {
	case api.BlockConst, api.BlockDelay:
		b.Value = anyScalar(r)
	case api.BlockGain:
		b.Value = anyScalar(r)
		if style == tame {
			b.Value = api.Scalar{Num: r.Intn(15) - 7, Exp: -3 - r.Intn(3)}
		}
	case api.BlockClip:
		b.Value, b.Upper = anyScalar(r), anyScalar(r)
		if scalarOf(b.Value).Cmp(scalarOf(b.Upper)) > 0 {
			b.Value, b.Upper = b.Upper, b.Value
		}
	}
	return b
}

// anyScalar returns a scalar, most often a small one, seldom one beyond 2^40.
func anyScalar(r *rand.Rand) api.Scalar {
	if r.Intn(4) > 0 {
		return api.Scalar{Num: r.Intn(17) - 8, Exp: r.Intn(9) - 6}
	}
	limit := 1<<r.Intn(32) - 1
	s := api.Scalar{Num: r.Intn(2*limit+1) - limit, Exp: r.Intn(72) - 62}
	if r.Intn(16) == 0 {
		s.Exp = r.Intn(93) - 62
	}
	return s
}

// diagrams are examples and random diagrams of all sizes, or of small ones only.
func diagrams(seed int64, most int) []api.Diagram {
	r := rand.New(rand.NewSource(seed))
	list := []api.Diagram{{}, filter(), {Inputs: []api.Port{{}}}}
	for n := 1; n <= most; n++ {
		for i := range 12 {
			list = append(list, anyDiagram(r, n, i%styles))
		}
	}
	return list
}

// anyNumber returns a fraction of at most so many bits.
func anyNumber(r *rand.Rand, bits int) *big.Rat {
	n := new(big.Int).Rand(r, new(big.Int).Lsh(big.NewInt(1), uint(bits)))
	if r.Intn(2) == 0 {
		n.Neg(n)
	}
	return new(big.Rat).SetFrac(n, new(big.Int).Lsh(big.NewInt(1), uint(r.Intn(bits+1))))
}

// anyInvariants returns an interval for each delay, all of about the same length, which seldom is too great.
func anyInvariants(r *rand.Rand, d api.Diagram) []span {
	var inv []span
	bits := 1 << r.Intn(13)
	if r.Intn(8) == 0 {
		bits = api.MaxBits - r.Intn(2)
	}
	for range delaysOf(d) {
		s := hullOf(anyNumber(r, bits), anyNumber(r, bits))
		if r.Intn(4) == 0 {
			s.hi = s.lo
		}
		inv = append(inv, s)
	}
	return inv
}

// copied returns d in new memory.
func copied(d api.Diagram) api.Diagram {
	c := api.Diagram{Inputs: slices.Clone(d.Inputs), Blocks: slices.Clone(d.Blocks), Outputs: slices.Clone(d.Outputs)}
	for i := range c.Blocks {
		c.Blocks[i].Args = slices.Clone(c.Blocks[i].Args)
	}
	return c
}

func sameDiagram(a, b api.Diagram) bool {
	return slices.Equal(a.Inputs, b.Inputs) && slices.Equal(a.Outputs, b.Outputs) && slices.EqualFunc(a.Blocks, b.Blocks, func(a, b api.Block) bool {
		return a.Kind == b.Kind && slices.Equal(a.Args, b.Args) && a.Value == b.Value && a.Upper == b.Upper
	})
}

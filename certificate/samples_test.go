package certificate

import (
	"math/big"
	"math/rand"
	"slices"

	"commutator/api"
	"commutator/diagram"
)

// This file makes diagrams and certificates.

// filter is the chapter's example.
func filter() api.Diagram {
	return api.Diagram{
		Inputs: []api.Port{{Lo: -1, Hi: 1}},
		Blocks: []api.Block{
			{Kind: api.BlockInput, Args: []int{0}},
			{Kind: api.BlockGain, Args: []int{3}, Value: api.Scalar{Num: 1, Exp: -1}},
			{Kind: api.BlockAdd, Args: []int{0, 1}},
			{Kind: api.BlockDelay, Args: []int{2}},
		},
		Outputs: []int{2},
	}
}

// filterSheet is the chapter's certificate for the filter, with the error of blocks 1 to 3.
func filterSheet(err *big.Rat) sheet {
	one, two := span{scaled(-1, 0), scaled(1, 0)}, span{scaled(-2, 0), scaled(2, 0)}
	return sheet{filter(), []int{4, 4, 4, 4}, []span{one, one, two, two}, []*big.Rat{new(big.Rat), err, err, err}}
}

// The diagram of a single block b: blocks 0 and 1 are delays of themselves, which may have any range that contains 0, any error and
// any scale; block 2 is b. Its arguments are blocks 0 and 1, or the port.
func single(b api.Block, port api.Port) api.Diagram {
	return api.Diagram{
		Inputs:  []api.Port{port},
		Blocks:  []api.Block{{Kind: api.BlockDelay, Args: []int{0}}, {Kind: api.BlockDelay, Args: []int{1}}, b},
		Outputs: []int{2},
	}
}

// op is a block of a kind with arguments, and with Value and Upper as far as there are any.
func op(kind int, args []int, scalars ...api.Scalar) api.Block {
	b := api.Block{Kind: kind, Args: args}
	if len(scalars) > 0 {
		b.Value = scalars[0]
	}
	if len(scalars) > 1 {
		b.Upper = scalars[1]
	}
	return b
}

// argsOf is the number of arguments of each kind of block.
var argsOf = [12]int{1, 0, 1, 2, 2, 1, 1, 2, 2, 2, 1, 1}

// The styles of random diagrams: signals that mostly stay bounded, signals that often grow, and any numbers.
const (
	tame = iota
	growing
	wild
	styles
)

func anyKind(r *rand.Rand, style int) int {
	kind := r.Intn(api.BlockClip + 1)
	if style != wild && r.Intn(3) == 0 {
		return [4]int{api.BlockDelay, api.BlockClip, api.BlockGain, api.BlockMin}[r.Intn(4)]
	}
	return kind
}

// anyDiagram returns a random diagram of n blocks without a circle.
func anyDiagram(r *rand.Rand, n, style int) api.Diagram {
	d := api.Diagram{Blocks: make([]api.Block, n)}
	for range 1 + r.Intn(4) {
		d.Inputs = append(d.Inputs, anyPort(r, style))
	}
	places := r.Perm(n)
	for place, i := range places {
		kind := anyKind(r, style)
		before := places[:place]
		if kind == api.BlockDelay {
			before = places
		} else if place == 0 && argsOf[kind] > 0 {
			kind = api.BlockInput
		}
		d.Blocks[i] = anyBlock(r, kind, len(d.Inputs), before, style)
	}
	for range r.Intn(4) {
		d.Outputs = append(d.Outputs, r.Intn(n))
	}
	return d
}

func anyPort(r *rand.Rand, style int) api.Port {
	if style == wild {
		return api.Port{Lo: -r.Intn(1 << r.Intn(32)), Hi: r.Intn(1 << r.Intn(32)), Frac: r.Intn(31)}
	}
	frac := r.Intn(28)
	return api.Port{Lo: -r.Intn(3<<frac + 1), Hi: r.Intn(5<<frac + 1), Frac: frac}
}

// anyBlock returns a block of a kind with arguments among some ports or blocks.
func anyBlock(r *rand.Rand, kind, ports int, blocks []int, style int) api.Block {
	b := api.Block{Kind: kind}
	for range argsOf[kind] {
		if kind == api.BlockInput {
			b.Args = append(b.Args, r.Intn(ports))
		} else {
			b.Args = append(b.Args, blocks[r.Intn(len(blocks))])
		}
	}
	switch kind {
	case api.BlockConst, api.BlockDelay:
		b.Value = anyScalar(r, style)
	case api.BlockGain:
		b.Value = anyScalar(r, style)
		if style == tame {
			b.Value = api.Scalar{Num: r.Intn(15) - 7, Exp: -3 - r.Intn(3)}
		}
	case api.BlockClip:
		b.Value, b.Upper = anyScalar(r, style), anyScalar(r, style)
		if scalarOf(b.Value).Cmp(scalarOf(b.Upper)) > 0 {
			b.Value, b.Upper = b.Upper, b.Value
		}
	}
	return b
}

func anyScalar(r *rand.Rand, style int) api.Scalar {
	bits := r.Intn(31)
	switch {
	case style == wild:
		return api.Scalar{Num: r.Intn(2<<bits+1) - 1<<bits, Exp: r.Intn(93) - 62}
	case r.Intn(3) > 0:
		return api.Scalar{Num: r.Intn(17) - 8, Exp: r.Intn(6) - 4}
	}
	return api.Scalar{Num: r.Intn(2<<bits+1) - 1<<bits, Exp: r.Intn(3) - bits}
}

// slowed returns d with filters of its blocks, whose gains are near 1 or -1.
func slowed(r *rand.Rand, d api.Diagram) api.Diagram {
	d = copiedDiagram(d)
	for range 1 + r.Intn(3) {
		n := len(d.Blocks)
		if n == 0 || n+3 > api.MaxBlocks {
			break
		}
		k := 3 + r.Intn(12)
		gain := api.Scalar{Num: (1<<k - 1 - r.Intn(4)) * (1 - 2*r.Intn(2)), Exp: -k}
		d.Blocks = append(d.Blocks,
			api.Block{Kind: api.BlockGain, Args: []int{n + 2}, Value: gain},
			api.Block{Kind: api.BlockAdd, Args: []int{n, r.Intn(n)}},
			api.Block{Kind: api.BlockDelay, Args: []int{n + 1}})
	}
	return d
}

// diagrams are examples and random diagrams of all sizes up to most.
func diagrams(r *rand.Rand, most, each int) []api.Diagram {
	list := []api.Diagram{{}, filter(), {Inputs: []api.Port{{}}}}
	for n := 1; n <= most; n++ {
		for i := range each {
			list = append(list, anyDiagram(r, n, i%styles))
		}
	}
	return list
}

// looser returns a certificate with the ranges of s, with scales that are less, and with errors that are hardly greater than needed;
// it returns false if there are no such errors.
func (s sheet) looser(r *rand.Rand) (sheet, bool) {
	order, err := diagram.Order(s.d)
	if err != nil {
		panic(err)
	}
	delays, err := diagram.Delays(s.d)
	if err != nil {
		panic(err)
	}
	s = s.copied()
	most := r.Intn(31)
	for i := range s.f {
		s.f[i] = max(0, s.f[i]-r.Intn(most+1))
	}
	_, ok := s.findErrors(order, delays)
	for _, i := range order {
		s.errs[i] = s.bound(i)
	}
	return s, ok
}

// copied returns s with lists of its own; the numbers are never changed.
func (s sheet) copied() sheet {
	return sheet{copiedDiagram(s.d), slices.Clone(s.f), slices.Clone(s.rs), slices.Clone(s.errs)}
}

// tiny returns a small number above 0.
func tiny(r *rand.Rand) *big.Rat {
	return scaled(1+r.Intn(3), -[4]int{4, 31, 64, 200}[r.Intn(4)])
}

// changed returns s with one thing about a block changed, often to where it is just right or wrong.
func (s sheet) changed(r *rand.Rand) sheet {
	if len(s.f) == 0 {
		return s
	}
	s = s.copied()
	i := r.Intn(len(s.f))
	move := [3]*big.Rat{new(big.Rat), tiny(r), new(big.Rat).Neg(tiny(r))}[r.Intn(3)]
	switch r.Intn(8) {
	case 0:
		s.f[i] += r.Intn(5) - 2
	case 1:
		s.f[i] = r.Intn(35) - 2
	case 2:
		s.rs[i] = hullOf(sumOf(s.rs[i].lo, move), s.rs[i].hi)
	case 3:
		s.rs[i] = hullOf(s.rs[i].lo, sumOf(s.rs[i].hi, move))
	case 4, 5:
		s.errs[i] = greatestOf(new(big.Rat), sumOf(s.errs[i], move))
	case 6:
		limit := shifted(scaled(1<<31-1, 0), -s.f[i])
		s.errs[i] = greatestOf(s.errs[i], sumOf(limit, new(big.Rat).Neg(s.rs[i].mag()), move))
	case 7:
		s.d.Blocks[i] = otherScalar(r, s.d.Blocks[i])
	}
	return s
}

// otherScalar returns b with another scalar, if it uses one.
func otherScalar(r *rand.Rand, b api.Block) api.Block {
	switch b.Kind {
	case api.BlockConst, api.BlockDelay, api.BlockGain:
		b.Value = api.Scalar{Num: b.Value.Num, Exp: r.Intn(93) - 62}
	case api.BlockClip:
		b.Upper = api.Scalar{Num: 1<<31 - 1, Exp: r.Intn(31)}
	}
	return b
}

func copiedDiagram(d api.Diagram) api.Diagram {
	c := api.Diagram{Inputs: slices.Clone(d.Inputs), Blocks: slices.Clone(d.Blocks), Outputs: slices.Clone(d.Outputs)}
	for i := range c.Blocks {
		c.Blocks[i].Args = slices.Clone(c.Blocks[i].Args)
	}
	return c
}

func sameDiagram(a, b api.Diagram) bool {
	return slices.Equal(a.Inputs, b.Inputs) && slices.Equal(a.Outputs, b.Outputs) && slices.EqualFunc(a.Blocks, b.Blocks, func(a, b api.Block) bool {
		return a.Kind == b.Kind && slices.Equal(a.Args, b.Args) && a.Value == b.Value && a.Upper == b.Upper
	})
}

func sameNumber(a, b api.Dyadic) bool {
	return a.Neg == b.Neg && a.Den == b.Den && slices.Equal(a.Words, b.Words)
}

func sameCert(a, b api.Cert) bool {
	return slices.Equal(a.Frac, b.Frac) && slices.EqualFunc(a.Err, b.Err, sameNumber) && slices.EqualFunc(a.Range, b.Range, func(a, b api.Interval) bool {
		return sameNumber(a.Lo, b.Lo) && sameNumber(a.Hi, b.Hi)
	})
}

func copiedNumber(a api.Dyadic) api.Dyadic {
	a.Words = slices.Clone(a.Words)
	return a
}

func copiedCert(c api.Cert) api.Cert {
	c = api.Cert{Frac: slices.Clone(c.Frac), Range: slices.Clone(c.Range), Err: slices.Clone(c.Err)}
	for i, a := range c.Range {
		c.Range[i] = api.Interval{Lo: copiedNumber(a.Lo), Hi: copiedNumber(a.Hi)}
	}
	for i, x := range c.Err {
		c.Err[i] = copiedNumber(x)
	}
	return c
}

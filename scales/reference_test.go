package scales

import (
	"math/big"
	"math/rand"
	"slices"

	"commutator/api"
)

// The first functions of this file follow the words of the chapter, in fractions; the other ones make diagrams, ranges and scales.

// scaled returns n * 2^exp.
func scaled(n, exp int) *big.Rat {
	return shifted(new(big.Rat).SetInt64(int64(n)), exp)
}

// shifted returns x * 2^exp.
func shifted(x *big.Rat, exp int) *big.Rat {
	power := new(big.Rat).SetInt(new(big.Int).Lsh(big.NewInt(1), uint(max(exp, -exp))))
	if exp < 0 {
		return power.Quo(x, power)
	}
	return power.Mul(x, power)
}

func scalarOf(s api.Scalar) *big.Rat {
	return scaled(s.Num, s.Exp)
}

// fractionOf returns the number that a valid Dyadic stands for.
func fractionOf(a api.Dyadic) *big.Rat {
	n := new(big.Int)
	for i := len(a.Words) - 1; i >= 0; i-- {
		n.Lsh(n, 32)
		n.Or(n, new(big.Int).SetUint64(uint64(a.Words[i])))
	}
	if a.Neg {
		n.Neg(n)
	}
	return new(big.Rat).SetFrac(n, new(big.Int).Lsh(big.NewInt(1), uint(a.Den)))
}

// dyadicOf returns the valid form of a fraction with a power of two as its denominator.
func dyadicOf(r *big.Rat) api.Dyadic {
	a := api.Dyadic{Neg: r.Sign() < 0, Den: r.Denom().BitLen() - 1}
	for n := new(big.Int).Abs(r.Num()); n.Sign() > 0; n.Rsh(n, 32) {
		a.Words = append(a.Words, uint32(new(big.Int).And(n, big.NewInt(1<<32-1)).Uint64()))
	}
	return a
}

func absOf(x *big.Rat) *big.Rat {
	return new(big.Rat).Abs(x)
}

func negOf(x *big.Rat) *big.Rat {
	return new(big.Rat).Neg(x)
}

// magOf returns the greatest absolute value in a.
func magOf(a api.Interval) *big.Rat {
	return slices.MaxFunc([]*big.Rat{absOf(fractionOf(a.Lo)), absOf(fractionOf(a.Hi))}, (*big.Rat).Cmp)
}

// isAtMostOf reports whether a magnitude times 2^f is at most the limit: the magnitude at most the limit over 2^f.
func isAtMostOf(mag *big.Rat, f, limit int) bool {
	return mag.Cmp(scaled(limit, -f)) <= 0
}

func chooseOf(r []api.Interval) ([]int, error) {
	var chosen []int
	for _, a := range r {
		best, mag := -1, magOf(a)
		for f := 0; f <= 30; f++ {
			if isAtMostOf(mag, f, 1<<30) {
				best = f
			}
		}
		if best < 0 {
			return nil, api.ErrLarge
		}
		chosen = append(chosen, best)
	}
	return chosen, nil
}

func uniformOf(r []api.Interval) ([]int, error) {
	chosen, err := chooseOf(r)
	least := 30
	for _, f := range chosen {
		least = min(least, f)
	}
	for i := range chosen {
		chosen[i] = least
	}
	return chosen, err
}

func fitsOf(r []api.Interval, f []int) bool {
	for i := range r {
		if f[i] < 0 || f[i] > 30 || !isAtMostOf(magOf(r[i]), f[i], 1<<31-1) {
			return false
		}
	}
	return true
}

func shiftsOf(d api.Diagram, f []int) int {
	count := 0
	for i, b := range d.Blocks {
		switch {
		case b.Kind != api.BlockInput:
			for _, arg := range b.Args {
				if f[arg] != f[i] {
					count++
				}
			}
		case d.Inputs[b.Args[0]].Frac != f[i]:
			count++
		}
	}
	return count
}

// sample has a block of each number of arguments, an input among them, and a delay.
func sample() api.Diagram {
	return api.Diagram{
		Inputs: []api.Port{{Lo: -9, Hi: 9, Frac: 2}},
		Blocks: []api.Block{
			{Kind: api.BlockInput, Args: []int{0}},
			{Kind: api.BlockGain, Args: []int{3}, Value: api.Scalar{Num: 1, Exp: -1}},
			{Kind: api.BlockAdd, Args: []int{0, 1}},
			{Kind: api.BlockDelay, Args: []int{2}},
			{Kind: api.BlockConst, Value: api.Scalar{Num: 5}},
		},
		Outputs: []int{2},
	}
}

// constants returns a diagram of n constants.
func constants(n int) api.Diagram {
	return api.Diagram{Blocks: slices.Repeat([]api.Block{{Kind: api.BlockConst}}, n)}
}

// argsOf is the number of arguments of each kind of block.
var argsOf = [12]int{1, 0, 1, 2, 2, 1, 1, 2, 2, 2, 1, 1}

// anyDiagram returns a random diagram of n blocks without a circle.
func anyDiagram(r *rand.Rand, n int) api.Diagram {
	d := api.Diagram{Blocks: make([]api.Block, n)}
	for range 1 + r.Intn(api.MaxPorts) {
		d.Inputs = append(d.Inputs, api.Port{Lo: -r.Intn(1 << 31), Hi: r.Intn(1 << 31), Frac: r.Intn(api.MaxFrac + 1)})
	}
	places := r.Perm(n)
	for place, i := range places {
		kind := r.Intn(api.BlockClip + 1)
		before := places[:place]
		if kind == api.BlockDelay {
			before = places
		} else if place == 0 && argsOf[kind] > 0 {
			kind = api.BlockInput
		}
		d.Blocks[i] = anyBlock(r, kind, len(d.Inputs), before)
	}
	for range r.Intn(api.MaxOuts + 1) {
		d.Outputs = append(d.Outputs, r.Intn(n))
	}
	return d
}

// anyBlock returns a block of a kind with arguments among some ports or blocks.
func anyBlock(r *rand.Rand, kind, ports int, blocks []int) api.Block {
	b := api.Block{Kind: kind}
	for range argsOf[kind] {
		if kind == api.BlockInput {
			b.Args = append(b.Args, r.Intn(ports))
		} else {
			b.Args = append(b.Args, blocks[r.Intn(len(blocks))])
		}
	}
	switch kind {
	case api.BlockConst, api.BlockDelay, api.BlockGain:
		b.Value = anyScalar(r)
	case api.BlockClip:
		b.Value, b.Upper = anyScalar(r), anyScalar(r)
		if scalarOf(b.Value).Cmp(scalarOf(b.Upper)) > 0 {
			b.Value, b.Upper = b.Upper, b.Value
		}
	}
	return b
}

func anyScalar(r *rand.Rand) api.Scalar {
	limit := 1<<r.Intn(32) - 1
	return api.Scalar{Num: r.Intn(2*limit+1) - limit, Exp: r.Intn(93) - 62}
}

// diagrams are examples and random diagrams of all sizes.
func diagrams(seed int64) []api.Diagram {
	r := rand.New(rand.NewSource(seed))
	list := []api.Diagram{{}, sample(), {Inputs: []api.Port{{}}}}
	for n := 1; n <= api.MaxBlocks; n++ {
		for range 12 {
			list = append(list, anyDiagram(r, n))
		}
	}
	return list
}

// anyEnd returns a number that is often close to a power of two or to what fits, and has at most about 2^bits as its absolute value.
func anyEnd(r *rand.Rand, bits int) *big.Rat {
	x := scaled(1, r.Intn(bits+36)-35)
	switch r.Intn(6) {
	case 0:
		x.Sub(x, scaled(1, -35-r.Intn(200)))
	case 1:
		x.Add(x, scaled(1, -35-r.Intn(200)))
	case 2:
		x = new(big.Rat)
	case 3:
		x = scaled(r.Intn(1<<31), bits-31-r.Intn(60))
	case 4:
		x = scaled(1<<31-1, bits-31-r.Intn(32))
	}
	if r.Intn(2) == 0 {
		x.Neg(x)
	}
	return x
}

// anyRanges returns an interval for each block, all of them of at most 2^bits, or a little more.
func anyRanges(r *rand.Rand, n, bits int) []api.Interval {
	var list []api.Interval
	for range n {
		ends := []*big.Rat{anyEnd(r, bits), anyEnd(r, bits)}
		if r.Intn(4) == 0 {
			ends[1] = ends[0]
		}
		slices.SortFunc(ends, (*big.Rat).Cmp)
		list = append(list, api.Interval{Lo: dyadicOf(ends[0]), Hi: dyadicOf(ends[1])})
	}
	return list
}

// anyBits returns the length of numbers, seldom one beyond which some of them do not fit.
func anyBits(r *rand.Rand) int {
	if r.Intn(8) == 0 {
		return 30 + r.Intn(4)
	}
	return r.Intn(30)
}

// anyScales returns scales that mostly fit, most often with one of them changed.
func anyScales(r *rand.Rand, ranges []api.Interval) []int {
	f, err := chooseOf(ranges)
	if err != nil {
		f = make([]int, len(ranges))
	}
	for i := range f {
		switch r.Intn(4) {
		case 0:
			f[i] = max(0, f[i]-r.Intn(31))
		case 1:
			if isAtMostOf(magOf(ranges[i]), f[i]+1, 1<<31-1) {
				f[i] = min(30, f[i]+1)
			}
		}
	}
	if len(f) > 0 && r.Intn(3) > 0 {
		f[r.Intn(len(f))] += r.Intn(5) - 2
	}
	return f
}

// copied returns d in new memory.
func copied(d api.Diagram) api.Diagram {
	c := api.Diagram{Inputs: slices.Clone(d.Inputs), Blocks: slices.Clone(d.Blocks), Outputs: slices.Clone(d.Outputs)}
	for i := range c.Blocks {
		c.Blocks[i].Args = slices.Clone(c.Blocks[i].Args)
	}
	return c
}

func sameDiagram(a, b api.Diagram) bool {
	return slices.Equal(a.Inputs, b.Inputs) && slices.Equal(a.Outputs, b.Outputs) && slices.EqualFunc(a.Blocks, b.Blocks, func(a, b api.Block) bool {
		return a.Kind == b.Kind && slices.Equal(a.Args, b.Args) && a.Value == b.Value && a.Upper == b.Upper
	})
}

func copiedRanges(list []api.Interval) []api.Interval {
	list = slices.Clone(list)
	for i := range list {
		list[i].Lo.Words = slices.Clone(list[i].Lo.Words)
		list[i].Hi.Words = slices.Clone(list[i].Hi.Words)
	}
	return list
}

func sameNumber(a, b api.Dyadic) bool {
	return a.Neg == b.Neg && a.Den == b.Den && slices.Equal(a.Words, b.Words)
}

func sameRanges(a, b []api.Interval) bool {
	return slices.EqualFunc(a, b, func(a, b api.Interval) bool {
		return sameNumber(a.Lo, b.Lo) && sameNumber(a.Hi, b.Hi)
	})
}

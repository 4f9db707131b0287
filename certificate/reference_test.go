package certificate

import (
	"fmt"
	"math/big"
	"slices"

	"commutator/api"
	"commutator/diagram"
	"commutator/ranges"
	"commutator/scales"
)

// This file follows the words of the chapter, in fractions.

// scaled returns n * 2^exp.
func scaled(n, exp int) *big.Rat {
	return shifted(new(big.Rat).SetInt64(int64(n)), exp)
}

// shifted returns x * 2^exp.
func shifted(x *big.Rat, exp int) *big.Rat {
	power := new(big.Rat).SetInt(new(big.Int).Lsh(big.NewInt(1), uint(max(exp, -exp))))
	if exp < 0 {
		return power.Quo(x, power)
	}
	return power.Mul(x, power)
}

func scalarOf(s api.Scalar) *big.Rat {
	return scaled(s.Num, s.Exp)
}

func sumOf(list ...*big.Rat) *big.Rat {
	sum := new(big.Rat)
	for _, x := range list {
		sum.Add(sum, x)
	}
	return sum
}

func productOf(x, y *big.Rat) *big.Rat {
	return new(big.Rat).Mul(x, y)
}

func leastOf(list ...*big.Rat) *big.Rat {
	return slices.MinFunc(list, (*big.Rat).Cmp)
}

func greatestOf(list ...*big.Rat) *big.Rat {
	return slices.MaxFunc(list, (*big.Rat).Cmp)
}

// fractionOf returns the number that a valid Dyadic stands for.
func fractionOf(a api.Dyadic) *big.Rat {
	n := new(big.Int)
	for i := len(a.Words) - 1; i >= 0; i-- {
		n.Lsh(n, 32)
		n.Or(n, new(big.Int).SetUint64(uint64(a.Words[i])))
	}
	if a.Neg {
		n.Neg(n)
	}
	return new(big.Rat).SetFrac(n, new(big.Int).Lsh(big.NewInt(1), uint(a.Den)))
}

// dyadicOf returns the valid form of a fraction with a power of two as its denominator.
func dyadicOf(x *big.Rat) api.Dyadic {
	a := api.Dyadic{Neg: x.Sign() < 0, Den: x.Denom().BitLen() - 1}
	for n := new(big.Int).Abs(x.Num()); n.Sign() > 0; n.Rsh(n, 32) {
		a.Words = append(a.Words, uint32(new(big.Int).And(n, big.NewInt(1<<32-1)).Uint64()))
	}
	return a
}

// span is an interval of fractions.
type span struct{ lo, hi *big.Rat }

// hullOf returns the least span that contains the numbers.
func hullOf(numbers ...*big.Rat) span {
	return span{leastOf(numbers...), greatestOf(numbers...)}
}

func (s span) contains(x span) bool {
	return s.lo.Cmp(x.lo) <= 0 && x.hi.Cmp(s.hi) <= 0
}

func (s span) mag() *big.Rat {
	return new(big.Rat).Abs(greatestOf(s.hi, new(big.Rat).Neg(s.lo)))
}

func (s span) String() string {
	return s.lo.String() + ".." + s.hi.String()
}

// sheet is a certificate in fractions with its diagram.
type sheet struct {
	d    api.Diagram
	f    []int
	rs   []span
	errs []*big.Rat
}

func sheetOf(d api.Diagram, c api.Cert) sheet {
	s := sheet{d: d, f: c.Frac}
	for _, a := range c.Range {
		s.rs = append(s.rs, span{fractionOf(a.Lo), fractionOf(a.Hi)})
	}
	for _, x := range c.Err {
		s.errs = append(s.errs, fractionOf(x))
	}
	return s
}

func (s sheet) String() string {
	return fmt.Sprintf("%v with the scales %v, the ranges %v and the errors %v", s.d, s.f, s.rs, s.errs)
}

// cert returns the certificate, in new memory.
func (s sheet) cert() api.Cert {
	c := api.Cert{Frac: slices.Clone(s.f)}
	for i := range s.d.Blocks {
		c.Range = append(c.Range, api.Interval{Lo: dyadicOf(s.rs[i].lo), Hi: dyadicOf(s.rs[i].hi)})
		c.Err = append(c.Err, dyadicOf(s.errs[i]))
	}
	return c
}

// scalarsOf lists the scalars of a block that have raw values in layer 15's code.
func scalarsOf(b api.Block) []api.Scalar {
	switch b.Kind {
	case api.BlockConst, api.BlockDelay:
		return []api.Scalar{b.Value}
	case api.BlockClip:
		return []api.Scalar{b.Value, b.Upper}
	}
	return nil
}

// shiftsOf lists the shifts of the first instruction of block i in layer 15's code; those of the others are 0.
func (s sheet) shiftsOf(i int) []int {
	b := s.d.Blocks[i]
	switch b.Kind {
	case api.BlockInput:
		return []int{s.f[i] - s.d.Inputs[b.Args[0]].Frac}
	case api.BlockGain:
		return []int{s.f[i] - s.f[b.Args[0]] + b.Value.Exp}
	case api.BlockMul:
		return []int{s.f[i] - s.f[b.Args[0]] - s.f[b.Args[1]]}
	}
	var list []int
	for _, arg := range b.Args {
		list = append(list, s.f[i]-s.f[arg])
	}
	return list
}

func (s sheet) hasScale(i int) bool {
	used := []int{s.f[i]}
	if s.d.Blocks[i].Kind != api.BlockInput {
		for _, arg := range s.d.Blocks[i].Args {
			used = append(used, s.f[arg])
		}
	}
	if slices.Min(used) < 0 || slices.Max(used) > 30 {
		return false
	}
	for _, shift := range s.shiftsOf(i) {
		if shift < -62 || shift > 30 {
			return false
		}
	}
	for _, scalar := range scalarsOf(s.d.Blocks[i]) {
		// The greatest whole number that is at most x is a 32-bit int if -2^31 <= x < 2^31.
		if x := shifted(scalarOf(scalar), s.f[i]); x.Cmp(scaled(-1, 31)) < 0 || x.Cmp(scaled(1, 31)) >= 0 {
			return false
		}
	}
	return true
}

// valueOf returns the value of a block with the arguments x and y, as layer 10's table says.
func valueOf(b api.Block, x, y *big.Rat) *big.Rat {
	v := new(big.Rat)
	switch b.Kind {
	case api.BlockAdd:
		return v.Add(x, y)
	case api.BlockSub:
		return v.Sub(x, y)
	case api.BlockNeg:
		return v.Neg(x)
	case api.BlockGain:
		return v.Mul(scalarOf(b.Value), x)
	case api.BlockMul:
		return v.Mul(x, y)
	case api.BlockMin:
		return leastOf(x, y)
	case api.BlockMax:
		return greatestOf(x, y)
	case api.BlockAbs:
		return v.Abs(x)
	case api.BlockClip:
		return greatestOf(scalarOf(b.Value), leastOf(x, scalarOf(b.Upper)))
	}
	panic("a block that is no operation")
}

// needed returns the least range that block i may have. All operations are monotone or linear in each of their arguments, so that
// the values at the ends suffice; only an absolute value is least at 0.
func (s sheet) needed(i int) span {
	b := s.d.Blocks[i]
	switch b.Kind {
	case api.BlockInput:
		port := s.d.Inputs[b.Args[0]]
		return span{scaled(port.Lo, -port.Frac), scaled(port.Hi, -port.Frac)}
	case api.BlockConst:
		return hullOf(scalarOf(b.Value))
	case api.BlockDelay:
		arg := s.rs[b.Args[0]]
		return hullOf(scalarOf(b.Value), arg.lo, arg.hi)
	}
	x, y := s.rs[b.Args[0]], s.rs[b.Args[len(b.Args)-1]]
	var values []*big.Rat
	for _, p := range []*big.Rat{x.lo, x.hi} {
		for _, q := range []*big.Rat{y.lo, y.hi} {
			values = append(values, valueOf(b, p, q))
		}
	}
	if b.Kind == api.BlockAbs && x.lo.Sign() <= 0 && x.hi.Sign() >= 0 {
		values = append(values, new(big.Rat))
	}
	return hullOf(values...)
}

// bound returns the bound of the chapter's table.
func (s sheet) bound(i int) *big.Rat {
	b, zero, u := s.d.Blocks[i], new(big.Rat), scaled(1, -s.f[i])
	more, whole := zero, zero
	for _, scalar := range scalarsOf(b) {
		if !shifted(scalarOf(scalar), s.f[i]).IsInt() {
			whole = u
		}
	}
	if slices.Min(append(s.shiftsOf(i), 0)) < 0 {
		more = u
	}
	if b.Kind == api.BlockInput {
		return more
	}
	var errs, mags, behind []*big.Rat // of the arguments; E(a) + r(a)
	for _, arg := range b.Args {
		errs = append(errs, s.errs[arg])
		mags = append(mags, s.rs[arg].mag())
		if s.f[i] >= s.f[arg] {
			behind = append(behind, s.errs[arg])
		} else {
			behind = append(behind, sumOf(s.errs[arg], u))
		}
	}
	switch b.Kind {
	case api.BlockConst:
		return whole
	case api.BlockAdd, api.BlockSub:
		return sumOf(behind...)
	case api.BlockNeg, api.BlockAbs:
		return behind[0]
	case api.BlockMin, api.BlockMax:
		return greatestOf(behind...)
	case api.BlockGain:
		return sumOf(productOf(new(big.Rat).Abs(scalarOf(b.Value)), errs[0]), more)
	case api.BlockMul:
		return sumOf(productOf(mags[0], errs[1]), productOf(mags[1], errs[0]), productOf(errs[0], errs[1]), more)
	}
	return greatestOf(behind[0], whole)
}

func (s sheet) hasFit(i int) bool {
	list := []*big.Rat{sumOf(s.rs[i].mag(), s.errs[i])}
	if b := s.d.Blocks[i]; b.Kind == api.BlockClip {
		list = append(list, sumOf(s.rs[b.Args[0]].hi, s.errs[b.Args[0]]))
	}
	return shifted(greatestOf(list...), s.f[i]).Cmp(scaled(1<<31-1, 0)) <= 0
}

// fault returns the first fault, or false if there is none.
func (s sheet) fault() (api.CertFault, bool) {
	for i := range s.d.Blocks {
		switch {
		case !s.hasScale(i):
			return api.CertFault{Kind: 1, Block: i}, true
		case !s.rs[i].contains(s.needed(i)):
			return api.CertFault{Kind: 2, Block: i}, true
		case s.errs[i].Cmp(s.bound(i)) < 0:
			return api.CertFault{Kind: 3, Block: i}, true
		case !s.hasFit(i):
			return api.CertFault{Kind: 4, Block: i}, true
		}
	}
	return api.CertFault{}, false
}

// ceilOf returns the least multiple of 2^-62 that is at least x.
func ceilOf(x *big.Rat) *big.Rat {
	n := new(big.Int).Lsh(x.Num(), 62)
	n.Add(n, x.Denom()).Sub(n, big.NewInt(1))
	return new(big.Rat).SetFrac(n.Div(n, x.Denom()), new(big.Int).Lsh(big.NewInt(1), 62))
}

// powerOf returns the least power of two from 2^-62 on that is not below x. All powers that it passes over are below x.
func powerOf(x *big.Rat) *big.Rat {
	for k := max(-62, x.Num().BitLen()-x.Denom().BitLen()-1); ; k++ {
		if p := scaled(1, k); p.Cmp(x) >= 0 {
			return p
		}
	}
}

// findErrors finds the errors for the scales, and returns after how many rounds, and whether there are any. It goes on with errors
// above 2^40, to see that they stay there, but not with those that would soon be too long.
func (s *sheet) findErrors(order, delays []int) (rounds int, ok bool) {
	s.errs = nil
	for range s.d.Blocks {
		s.errs = append(s.errs, new(big.Rat))
	}
	for changed := true; changed; {
		if rounds++; rounds > 128 {
			return rounds, false
		}
		changed = false
		for _, i := range order {
			s.errs[i] = ceilOf(s.bound(i))
			if s.errs[i].Cmp(scaled(1, 100)) > 0 {
				return rounds, false
			}
		}
		for _, i := range delays {
			next := greatestOf(s.errs[i], ceilOf(s.bound(i)))
			if next.Cmp(s.errs[i]) == 0 {
				continue
			}
			changed = true
			if rounds > 64 {
				next = powerOf(next)
			}
			s.errs[i] = next
		}
	}
	for _, x := range s.errs {
		if x.Cmp(scaled(1, 40)) > 0 {
			return rounds, false
		}
	}
	return rounds, true
}

// made tells how a certificate was made: the rounds that found its errors, and how often the scales were lessened.
type made struct{ rounds, lessened int }

// makeOf returns what Make is to return for a diagram that is accepted.
func makeOf(d api.Diagram, rounds int) (api.Cert, bool, made) {
	order, err := diagram.Order(d)
	if err != nil {
		panic(err)
	}
	delays, err := diagram.Delays(d)
	if err != nil {
		panic(err)
	}
	inv, err := ranges.Infer(d, rounds)
	if err != nil {
		return api.Cert{}, false, made{}
	}
	rs, err := ranges.Eval(d, inv)
	if err != nil {
		return api.Cert{}, false, made{}
	}
	f, err := scales.Choose(d, rs)
	if err != nil {
		return api.Cert{}, false, made{}
	}
	s := sheetOf(d, api.Cert{Frac: f, Range: rs})
	for lessened := 0; ; lessened++ {
		if n, ok := s.findErrors(order, delays); ok {
			if _, wrong := s.fault(); !wrong {
				return s.cert(), true, made{n, lessened}
			}
		}
		if len(f) == 0 || slices.Max(f) == 0 {
			return api.Cert{}, false, made{0, lessened}
		}
		for i := range f {
			s.f[i] = max(0, f[i]-1)
		}
	}
}

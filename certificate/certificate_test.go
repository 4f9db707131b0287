package certificate

import (
	"math"
	"math/big"
	"math/rand"
	"testing"

	"commutator/api"
)

// P16.1: Verify reports what is specified.

// checkVerify compares with the chapter's words, and returns the fault, or false if there is none.
func checkVerify(t *testing.T, s sheet) (api.CertFault, bool) {
	t.Helper()
	want, wrong := s.fault()
	if is, fault, err := Verify(s.d, s.cert()); is == wrong || fault != want || err != nil {
		t.Fatalf("%v: %v, %v, %v, not %v, %v", s, is, fault, err, !wrong, want)
	}
	return want, wrong
}

// expect checks what Verify returns; kind 0 means that the certificate is accepted.
func (s sheet) expect(t *testing.T, name string, kind, block int) {
	t.Helper()
	want := api.CertFault{Kind: kind, Block: block}
	if is, fault, err := Verify(s.d, s.cert()); is != (kind == 0) || fault != want || err != nil {
		t.Errorf("%s: %v: %v, %v, %v, not %v", name, s, is, fault, err, want)
	}
}

func TestExample(t *testing.T) {
	filterSheet(scaled(1, -3)).expect(t, "the errors 1/8", 0, 0)
	filterSheet(scaled(1, -4)).expect(t, "the errors 1/16", 3, 1)
	// Each error alone is as small as it may be.
	for i := 1; i < 4; i++ {
		s := filterSheet(scaled(1, -3))
		s.errs[i] = sumOf(s.errs[i], scaled(-1, -100))
		s.expect(t, "a smaller error", 3, i)
	}
}

// singleSheet is a certificate for a single block, with ranges for the two signals, errors 1/8 and 1/16, and scales 5 and 3. The block
// has the least range, and the error e.
func singleSheet(b api.Block, port api.Port, f int, e *big.Rat) sheet {
	x, y := span{scaled(-3, 0), scaled(2, 0)}, span{scaled(-1, 0), scaled(4, 0)}
	s := sheet{single(b, port), []int{5, 3, f}, []span{x, y, {}}, []*big.Rat{scaled(1, -3), scaled(1, -4), e}}
	s.rs[2] = s.needed(2)
	return s
}

// boundRow is a block of the two signals with the scale f, and the bound num * 2^exp of its error; the port of an input has 6 fraction
// bits.
type boundRow struct {
	b           api.Block
	f, num, exp int
}

func boundRows() []boundRow {
	first, second, both, swapped := []int{0}, []int{1}, []int{0, 1}, []int{1, 0}
	return []boundRow{
		{op(api.BlockInput, first), 4, 1, -4},
		{op(api.BlockInput, first), 5, 1, -5},
		{op(api.BlockInput, first), 6, 0, 0},
		{op(api.BlockInput, first), 7, 0, 0},
		{op(api.BlockConst, nil, api.Scalar{Num: 3, Exp: -3}), 3, 0, 0},
		{op(api.BlockConst, nil, api.Scalar{Num: 3, Exp: -3}), 2, 1, -2},
		{op(api.BlockConst, nil, api.Scalar{Num: 12, Exp: -3}), 1, 0, 0},
		{op(api.BlockConst, nil, api.Scalar{Num: -1, Exp: -62}), 30, 1, -30},
		{op(api.BlockConst, nil, api.Scalar{Exp: -62}), 0, 0, 0},
		{op(api.BlockAdd, both), 4, 1, -2},
		{op(api.BlockAdd, swapped), 4, 1, -2},
		{op(api.BlockAdd, both), 5, 3, -4},
		{op(api.BlockAdd, both), 2, 11, -4},
		{op(api.BlockAdd, []int{0, 0}), 4, 3, -3},
		{op(api.BlockSub, both), 4, 1, -2},
		{op(api.BlockSub, swapped), 3, 5, -4},
		{op(api.BlockSub, []int{1, 1}), 2, 5, -3},
		{op(api.BlockNeg, first), 4, 3, -4},
		{op(api.BlockNeg, second), 4, 1, -4},
		{op(api.BlockAbs, first), 4, 3, -4},
		{op(api.BlockAbs, first), 5, 1, -3},
		{op(api.BlockAbs, second), 2, 5, -4},
		{op(api.BlockMin, both), 4, 3, -4},
		{op(api.BlockMin, swapped), 0, 9, -3},
		{op(api.BlockMax, both), 4, 3, -4},
		{op(api.BlockMax, swapped), 9, 1, -3},
		{op(api.BlockMax, []int{1, 1}), 3, 1, -4},
		{op(api.BlockGain, first, api.Scalar{Num: -3, Exp: -1}), 4, 1, -2},
		{op(api.BlockGain, first, api.Scalar{Num: -3, Exp: -1}), 6, 3, -4},
		{op(api.BlockGain, second, api.Scalar{Num: -3}), 4, 3, -4},
		{op(api.BlockGain, second, api.Scalar{Num: 3, Exp: -1}), 4, 3, -5},
		{op(api.BlockGain, second, api.Scalar{Num: 3, Exp: -2}), 4, 7, -6},
		{op(api.BlockGain, second, api.Scalar{Num: 4, Exp: -2}), 4, 1, -3},
		{op(api.BlockGain, second), 4, 0, 0},
		{op(api.BlockGain, second), 2, 1, -2},
		{op(api.BlockMul, both), 4, 97, -7},
		{op(api.BlockMul, both), 7, 90, -7},
		{op(api.BlockMul, both), 8, 89, -7},
		{op(api.BlockMul, swapped), 8, 89, -7},
		{op(api.BlockMul, []int{0, 0}), 10, 49, -6},
		{op(api.BlockClip, first, api.Scalar{Num: -1}, api.Scalar{Num: 1}), 4, 3, -4},
		{op(api.BlockClip, second, api.Scalar{Num: -1}, api.Scalar{Num: 1}), 3, 1, -4},
		{op(api.BlockClip, second, api.Scalar{Num: 1, Exp: -4}, api.Scalar{Num: 1}), 3, 1, -3},
		{op(api.BlockClip, second, api.Scalar{Num: -1}, api.Scalar{Num: 1, Exp: -4}), 3, 1, -3},
		{op(api.BlockClip, second, api.Scalar{Num: -1}, api.Scalar{Num: 1, Exp: -6}), 5, 1, -4},
		{op(api.BlockClip, second, api.Scalar{Num: -1, Exp: -9}), 2, 5, -4},
		{op(api.BlockDelay, first), 4, 3, -4},
		{op(api.BlockDelay, second), 4, 1, -4},
		{op(api.BlockDelay, second, api.Scalar{Num: 1, Exp: -4}), 3, 1, -3},
		{op(api.BlockDelay, second, api.Scalar{Num: 1, Exp: -4}), 4, 1, -4},
		{op(api.BlockDelay, second, api.Scalar{Num: -7, Exp: -9}), 2, 5, -4},
	}
}

// The bounds of errors, by hand: each one is accepted, and nothing below it.
func TestErrorsByHand(t *testing.T) {
	for i, row := range boundRows() {
		bound := scaled(row.num, row.exp)
		s := singleSheet(row.b, api.Port{Lo: -5, Hi: 7, Frac: 6}, row.f, bound)
		s.expect(t, "the bound", 0, 0)
		s.errs[2] = sumOf(bound, scaled(1, -100))
		s.expect(t, "more than the bound", 0, 0)
		if row.num > 0 {
			for _, e := range []*big.Rat{new(big.Rat), sumOf(bound, scaled(-1, -100))} {
				s.errs[2] = e
				s.expect(t, "less than the bound", 3, 2)
			}
		}
		if t.Failed() {
			t.Fatalf("row %d", i)
		}
	}
}

// rangeRow is a block of the two signals, and the ends of its least range in quarters; the port of an input has 2 fraction bits.
type rangeRow struct {
	b      api.Block
	lo, hi int
}

func rangeRows() []rangeRow {
	first, second, both, swapped := []int{0}, []int{1}, []int{0, 1}, []int{1, 0}
	return []rangeRow{
		{op(api.BlockInput, first), -5, 7},
		{op(api.BlockConst, nil, api.Scalar{Num: -3, Exp: -1}), -6, -6},
		{op(api.BlockAdd, both), -16, 24},
		{op(api.BlockAdd, []int{0, 0}), -24, 16},
		{op(api.BlockSub, both), -28, 12},
		{op(api.BlockSub, swapped), -12, 28},
		{op(api.BlockNeg, first), -8, 12},
		{op(api.BlockGain, second, api.Scalar{Num: -5, Exp: -1}), -40, 10},
		{op(api.BlockGain, second), 0, 0},
		{op(api.BlockMul, both), -48, 32},
		{op(api.BlockMul, []int{0, 0}), -24, 36},
		{op(api.BlockMin, both), -12, 8},
		{op(api.BlockMax, both), -4, 16},
		{op(api.BlockAbs, first), 0, 12},
		{op(api.BlockClip, first, api.Scalar{Num: -2}, api.Scalar{Num: 3, Exp: -2}), -8, 3},
		{op(api.BlockClip, first, api.Scalar{Num: -9}, api.Scalar{Num: 9}), -12, 8},
		{op(api.BlockDelay, first), -12, 8},
		{op(api.BlockDelay, first, api.Scalar{Num: 9, Exp: -2}), -12, 9},
		{op(api.BlockDelay, second, api.Scalar{Num: -5, Exp: -2}), -5, 16},
	}
}

// The least ranges, by hand: each one is accepted, so is what contains it, but nothing else.
func TestRangesByHand(t *testing.T) {
	for _, row := range rangeRows() {
		lo, hi := scaled(row.lo, -2), scaled(row.hi, -2)
		s := singleSheet(row.b, api.Port{Lo: -5, Hi: 7, Frac: 2}, 6, scaled(1, 9))
		s.rs[2] = span{lo, hi}
		s.expect(t, "the least range", 0, 0)
		for _, by := range []*big.Rat{scaled(1, -100), scaled(1, -2)} {
			down, up := sumOf(lo, new(big.Rat).Neg(by)), sumOf(hi, by)
			for _, wide := range []span{{down, hi}, {lo, up}, {down, up}} {
				s.rs[2] = wide
				s.expect(t, "a wide range", 0, 0)
			}
			for _, wrong := range []span{{sumOf(lo, by), up}, {down, sumOf(hi, new(big.Rat).Neg(by))}} {
				s.rs[2] = wrong
				s.expect(t, "a range that lacks an end", 2, 2)
			}
		}
	}
}

// A range may be short although the interval of the operation is longer than MaxBits.
func TestLongOperation(t *testing.T) {
	s := singleSheet(api.Block{Kind: api.BlockMul, Args: []int{0, 1}}, api.Port{}, 0, scaled(1, 4))
	s.rs[0], s.rs[1] = hullOf(new(big.Rat), scaled(1, -3000)), hullOf(new(big.Rat), scaled(3, -4001))
	s.rs[2] = hullOf(new(big.Rat), scaled(1, -4000))
	s.expect(t, "a long product", 0, 0)
	s.rs[2] = hullOf(scaled(1, -4096), scaled(1, -4000))
	s.expect(t, "a long product", 2, 2)
}

// fits is the sheet of a delay of itself with the range and the error.
func fits(f int, r span, e *big.Rat) sheet {
	d := api.Diagram{Blocks: []api.Block{{Kind: api.BlockDelay, Args: []int{0}}}}
	return sheet{d, []int{f}, []span{r}, []*big.Rat{e}}
}

// The magnitude and the error together are at most 2^31 - 1 raw units.
func TestFit(t *testing.T) {
	for f := range 31 {
		most := scaled(1<<31-1, -f)
		for _, x := range []*big.Rat{new(big.Rat), scaled(1, -200), scaled(1, -f), scaled(1, 0), scaled(1<<30, -f), most} {
			minus, rest := new(big.Rat).Neg(x), sumOf(most, new(big.Rat).Neg(x))
			for _, r := range []span{hullOf(new(big.Rat), x), hullOf(minus, new(big.Rat)), hullOf(minus, x), hullOf(minus, productOf(x, scaled(1, -1)))} {
				fits(f, r, rest).expect(t, "what fits", 0, 0)
				fits(f, r, new(big.Rat)).expect(t, "what fits", 0, 0)
				fits(f, r, sumOf(rest, scaled(1, -200))).expect(t, "a great error", 4, 0)
				fits(f, r, scaled(1, 4000)).expect(t, "a great error", 4, 0)
			}
			fits(f, hullOf(new(big.Rat), sumOf(x, scaled(1, -201))), rest).expect(t, "a great range", 4, 0)
			fits(f, hullOf(new(big.Rat), sumOf(minus, scaled(-1, -201))), rest).expect(t, "a great range", 4, 0)
		}
	}
}

// The argument of a clip has to fit above with the scale of the clip, but not below.
func TestFitOfClips(t *testing.T) {
	for f := range 31 {
		limit := sumOf(scaled(1<<31-1, -f), scaled(-1, -4))
		d := api.Diagram{Blocks: []api.Block{
			{Kind: api.BlockDelay, Args: []int{0}},
			{Kind: api.BlockClip, Args: []int{0}, Value: api.Scalar{}, Upper: api.Scalar{Num: 1}},
		}}
		low := hullOf(scaled(-1, 30), new(big.Rat))
		s := sheet{d, []int{0, f}, []span{low, hullOf(new(big.Rat), scaled(1, 0))}, []*big.Rat{scaled(1, -4), scaled(1, -1)}}
		s.expect(t, "a low argument", 0, 0)
		if f > 0 {
			s.rs[0] = hullOf(scaled(-1, 30), limit)
			s.expect(t, "a high argument", 0, 0)
			s.rs[0] = hullOf(scaled(-1, 30), sumOf(limit, scaled(1, -100)))
			s.expect(t, "a higher argument", 4, 1)
			s.errs[0] = scaled(1, -5)
			s.expect(t, "a higher argument with a smaller error", 0, 0)
			s.errs[0], s.rs[0] = scaled(1, -3), hullOf(scaled(-1, 30), limit)
			s.expect(t, "a high argument with a greater error", 4, 1)
		}
	}
}

// The scales of a block and of its arguments.
func TestScales(t *testing.T) {
	for _, wrong := range []int{-1, 31, 32, -64, 1 << 31, 1 << 32, 1<<32 + 4, 1<<62 + 4, math.MinInt, math.MaxInt} {
		// The first block that has the wrong scale is the block itself or one that has it as its argument.
		for i, first := range map[int]int{0: 0, 1: 1, 2: 2, 3: 1} {
			s := filterSheet(scaled(1, -3))
			s.f[i] = wrong
			s.expect(t, "a wrong scale", 1, first)
		}
		for kind, n := range argsOf {
			for place := range n {
				d := api.Diagram{Inputs: make([]api.Port, 3), Blocks: []api.Block{
					{Kind: kind, Args: []int{1, 2}[:n]},
					{Kind: api.BlockDelay, Args: []int{1}},
					{Kind: api.BlockDelay, Args: []int{2}},
				}}
				zero := hullOf(new(big.Rat))
				s := sheet{d, []int{4, 4, 4}, []span{zero, zero, zero}, []*big.Rat{scaled(1, 0), new(big.Rat), new(big.Rat)}}
				// A port is not a block: that with its number may have any scale.
				first := 0
				if kind == api.BlockInput {
					first = 1
				}
				s.expect(t, "a right scale", 0, 0)
				s.f[1+place] = wrong
				s.expect(t, "a wrong scale of an argument", 1, first)
			}
		}
	}
}

// Only the shift of a gain can be out of its range.
func TestShiftsOfGains(t *testing.T) {
	for own := range 31 {
		for first := range 31 {
			for exp := -62; exp <= 30; exp++ {
				for _, num := range []int{0, 1, -1<<31 + 1} {
					b := api.Block{Kind: api.BlockGain, Args: []int{0}, Value: api.Scalar{Num: num, Exp: exp}}
					s := fits(first, hullOf(new(big.Rat)), new(big.Rat))
					s.d.Blocks = append(s.d.Blocks, b)
					s = sheet{s.d, append(s.f, own), append(s.rs, s.rs[0]), append(s.errs, scaled(1, -own))}
					want := 0
					if shift := own - first + exp; shift < -62 || shift > 30 {
						want = 1
					}
					s.expect(t, "a gain", want, want)
				}
			}
		}
	}
}

// The raw values of constants, initial values and bounds, with the scale of the block.
func TestRawValues(t *testing.T) {
	zero := new(big.Rat)
	for f := range 31 {
		for _, c := range []struct {
			s  api.Scalar
			ok bool
		}{
			{api.Scalar{Num: 1<<31 - 1, Exp: -f}, true},
			{api.Scalar{Num: 1 << 30, Exp: 1 - f}, false},
			{api.Scalar{Num: 1<<31 - 1, Exp: 1 - f}, false},
			{api.Scalar{Num: 1<<31 - 1, Exp: 30}, false},
			{api.Scalar{Num: 1 - 1<<31, Exp: -f}, true},
			{api.Scalar{Num: -1 << 30, Exp: 1 - f}, true},
			{api.Scalar{Num: -1<<30 - 1, Exp: 1 - f}, false},
			{api.Scalar{Num: 1 - 1<<31, Exp: 30}, false},
		} {
			x := scalarOf(c.s)
			kind := func(ok int) int {
				if c.ok {
					return ok
				}
				return 1
			}
			// A raw value of -2^31 is permitted, but has no room: the magnitude does not fit.
			fit := 0
			if shifted(x, f).Cmp(scaled(-1, 31)) == 0 {
				fit = 4
			}
			clip := api.Block{Kind: api.BlockClip, Args: []int{0}, Value: c.s}
			if x.Sign() > 0 {
				clip = api.Block{Kind: api.BlockClip, Args: []int{0}, Upper: c.s}
			}
			s := fits(0, hullOf(zero), zero)
			s.d.Blocks = append(s.d.Blocks, clip)
			sheet{s.d, []int{0, f}, []span{hullOf(zero), hullOf(zero)}, []*big.Rat{zero, zero}}.expect(t, "a clip", kind(0), kind(0))
			for _, b := range []api.Block{{Kind: api.BlockConst, Value: c.s}, {Kind: api.BlockDelay, Args: []int{0}, Value: c.s}} {
				s := sheet{api.Diagram{Blocks: []api.Block{b}}, []int{f}, []span{hullOf(x, zero)}, []*big.Rat{zero}}
				s.expect(t, "a scalar", kind(fit), 0)
			}
		}
	}
}

// counts are how often each kind of fault of each kind of block was seen, and how often there was none.
type counts struct {
	faults [5][api.BlockClip + 1]int
	right  int
}

func (c *counts) add(t *testing.T, s sheet) {
	t.Helper()
	if fault, wrong := checkVerify(t, s); wrong {
		c.faults[fault.Kind][s.d.Blocks[fault.Block].Kind]++
	} else {
		c.right++
	}
}

func (c *counts) check(t *testing.T, least int) {
	t.Helper()
	for kind := 1; kind <= 4; kind++ {
		for block, n := range c.faults[kind] {
			if n < least {
				t.Errorf("fault %d of kind %d of block is seen %d times", kind, block, n)
			}
		}
	}
	if c.right < 1000 {
		t.Errorf("only %d certificates are right", c.right)
	}
}

func TestVerifyOfAllSizes(t *testing.T) {
	r := rand.New(rand.NewSource(1))
	var seen counts
	for _, d := range diagrams(r, 20, 36) {
		c, is, err := Make(d, 2)
		if !is || err != nil {
			continue
		}
		s := sheetOf(d, c)
		for range 4 {
			loose, ok := s.looser(r)
			if !ok {
				continue
			}
			seen.add(t, loose)
			for range 12 {
				x := loose
				for range 1 + r.Intn(2) {
					x = x.changed(r)
				}
				seen.add(t, x)
			}
		}
	}
	seen.check(t, 10)
}

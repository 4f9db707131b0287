package certificate

import (
	"math/big"
	"math/rand"
	"testing"

	"commutator/api"
)

// P16.1: Make returns what is specified, and Verify accepts it.

// checkMake compares with the chapter's words, and returns what it expects.
func checkMake(t *testing.T, d api.Diagram, rounds int) (bool, made) {
	t.Helper()
	want, wantIs, how := makeOf(d, rounds)
	c, is, err := Make(d, rounds)
	if !sameCert(c, want) || is != wantIs || err != nil {
		t.Fatalf("Make(%v, %d) = %v, %v, %v, not %v, %v", d, rounds, c, is, err, want, wantIs)
	}
	if is {
		checkAccepted(t, d, c)
	}
	return is, how
}

func checkAccepted(t *testing.T, d api.Diagram, c api.Cert) {
	t.Helper()
	if is, fault, err := Verify(d, c); !is || fault != (api.CertFault{}) || err != nil {
		t.Fatalf("Verify(%v, %v) = %v, %v, %v", d, c, is, fault, err)
	}
}

// expectMake checks the scales and the errors that Make returns.
func expectMake(t *testing.T, name string, d api.Diagram, rounds int, f []int, errs ...*big.Rat) {
	t.Helper()
	c, is, err := Make(d, rounds)
	if !is || err != nil || len(c.Range) != len(f) {
		t.Fatalf("%s: %v, %v, %v", name, c, is, err)
	}
	s := sheetOf(d, c)
	want := sheet{d, f, s.rs, errs}
	if !sameCert(c, want.cert()) {
		t.Errorf("%s: %v, not %v", name, s, want)
	}
	checkAccepted(t, d, c)
}

func expectNone(t *testing.T, name string, d api.Diagram, rounds int) {
	t.Helper()
	if c, is, err := Make(d, rounds); is || err != nil || !sameCert(c, api.Cert{}) {
		t.Errorf("%s: %v, %v, %v", name, c, is, err)
	}
}

// The error e of the delay is that of e = e/2 + 2^-28, where both arguments of the sum lose a bit.
func TestMakeTheFilter(t *testing.T) {
	for rounds := 2; rounds <= 16; rounds++ {
		expectMake(t, "the filter", filter(), rounds, []int{30, 30, 29, 29}, new(big.Rat), scaled(1, -28), scaled(1, -27), scaled(1, -27))
		checkMake(t, filter(), rounds)
	}
	c, _, _ := Make(filter(), 2)
	if s := sheetOf(filter(), c); !sameCert(c, sheet{s.d, s.f, filterSheet(nil).rs, s.errs}.cert()) {
		t.Errorf("the ranges are %v", s.rs)
	}
}

// With a gain of 1 - 2^-k the error is 2^k times that of a round: it is found among the powers of two only.
func TestMakeSlowFilters(t *testing.T) {
	for k := 4; k <= 20; k++ {
		d := filter()
		d.Blocks[1].Value = api.Scalar{Num: 1<<k - 1, Exp: -k}
		is, how := checkMake(t, d, 1)
		if !is || how.rounds <= 64 {
			t.Errorf("the gain 1 - 2^-%d: %v, %v", k, is, how)
		}
	}
	// By hand: the range of the delay is -32..32, and the scales are 25 but for that of the input, so that in a round both the product
	// and the input are rounded: e = 31/32 e + 2 * 2^-25. After 64 rounds e is between 2^-20 and 2^-19, where it stays.
	d := filter()
	d.Blocks[1].Value = api.Scalar{Num: 31, Exp: -5}
	expectMake(t, "the gain 31/32", d, 1, []int{30, 25, 25, 25}, new(big.Rat), scaled(63, -25), scaled(1, -19), scaled(1, -19))
}

// A sum that is clipped is bounded, but its error is not, if it is rounded in each tick.
func TestMakeGrowingErrors(t *testing.T) {
	d := api.Diagram{Inputs: []api.Port{{Lo: -3, Hi: 3}}, Blocks: []api.Block{
		{Kind: api.BlockInput, Args: []int{0}},
		{Kind: api.BlockAdd, Args: []int{0, 2}},
		{Kind: api.BlockDelay, Args: []int{3}},
		{Kind: api.BlockClip, Args: []int{1}, Value: api.Scalar{Num: -8}, Upper: api.Scalar{Num: 8}},
	}}
	// The scales are 28, 26, 27, 27 at first: only when all are 0 the input is not rounded for the sum.
	expectMake(t, "whole numbers", d, 2, []int{0, 0, 0, 0}, new(big.Rat), new(big.Rat), new(big.Rat), new(big.Rat))
	if _, how := checkMake(t, d, 2); how.lessened != 28 {
		t.Errorf("the scales are lessened %d times", how.lessened)
	}
	d.Inputs[0].Frac = 1
	expectNone(t, "an error in each tick", d, 2)
	checkMake(t, d, 2)
	// A product grows faster than any power: no error gets beyond what can be computed.
	d.Blocks[1] = api.Block{Kind: api.BlockMul, Args: []int{2, 2}}
	d.Blocks[2].Value = api.Scalar{Num: 3, Exp: -62}
	checkMake(t, d, 2)
	d.Blocks[3].Value, d.Blocks[3].Upper = api.Scalar{Num: -1 << 14}, api.Scalar{Num: 1 << 14}
	checkMake(t, d, 2)
}

// Where a certificate is refused, all scales become less together, as far as they are above 0.
func TestMakeLessensScales(t *testing.T) {
	// The bound 2^20 of the clip is a 32-bit int with at most 10 fraction bits.
	d := api.Diagram{Inputs: []api.Port{{Lo: -1, Hi: 1}, {Lo: -1 << 25, Hi: 1 << 25}}, Blocks: []api.Block{
		{Kind: api.BlockInput, Args: []int{0}},
		{Kind: api.BlockClip, Args: []int{0}, Value: api.Scalar{Num: -1}, Upper: api.Scalar{Num: 1, Exp: 20}},
		{Kind: api.BlockInput, Args: []int{1}},
		{Kind: api.BlockConst, Value: api.Scalar{Num: 1, Exp: -20}},
	}}
	zero := new(big.Rat)
	expectMake(t, "a clip", d, 1, []int{10, 10, 0, 10}, zero, zero, zero, scaled(1, -10))
	if _, how := checkMake(t, d, 1); how.lessened != 20 {
		t.Errorf("the scales are lessened %d times", how.lessened)
	}
	d.Blocks[1].Upper.Exp = 30
	expectMake(t, "a wide clip", d, 1, []int{0, 0, 0, 0}, zero, zero, zero, scaled(1, 0))
	d.Blocks[1].Upper.Num = 2
	expectNone(t, "too wide a clip", d, 1)
	checkMake(t, d, 1)
	// The shift of this gain is permitted only where both scales are the same.
	d.Blocks[1] = api.Block{Kind: api.BlockGain, Args: []int{2}, Value: api.Scalar{Exp: 30}}
	expectMake(t, "a gain of 0", d, 1, []int{0, 0, 0, 0}, zero, zero, zero, scaled(1, 0))
	checkMake(t, d, 1)
}

// There is no certificate without invariants, ranges and scales.
func TestMakeWithoutSignals(t *testing.T) {
	d := filter()
	d.Blocks[1].Value = api.Scalar{Num: 1}
	expectNone(t, "an unbounded sum", d, 16)
	d = api.Diagram{Blocks: []api.Block{{Kind: api.BlockConst, Value: api.Scalar{Num: 1<<30 + 1}}}}
	expectNone(t, "a constant without a scale", d, 1)
	d.Blocks[0].Value.Num = 1 << 30
	expectMake(t, "a constant with a scale", d, 1, []int{0}, new(big.Rat))
	// The range of 12 products of 3 * 3 is too long.
	d = api.Diagram{Inputs: []api.Port{{Hi: 3}}, Blocks: []api.Block{{Kind: api.BlockInput, Args: []int{0}}}}
	for i := range 12 {
		d.Blocks = append(d.Blocks, api.Block{Kind: api.BlockMul, Args: []int{i, i}})
	}
	expectNone(t, "a long range", d, 1)
}

// An error is rounded up to a multiple of 2^-62.
func TestMakeRoundsErrorsUp(t *testing.T) {
	d := filter()
	d.Inputs[0] = api.Port{Lo: -1, Hi: 1, Frac: 30}
	d.Blocks = append(d.Blocks, api.Block{Kind: api.BlockConst, Value: api.Scalar{Num: 1, Exp: -31}},
		api.Block{Kind: api.BlockGain, Args: []int{4}, Value: api.Scalar{Num: 1, Exp: -33}},
		api.Block{Kind: api.BlockGain, Args: []int{4}, Value: api.Scalar{Num: 1, Exp: -32}},
		api.Block{Kind: api.BlockMul, Args: []int{4, 4}})
	c, is, err := Make(d, 2)
	if !is || err != nil {
		t.Fatal(is, err)
	}
	checkMake(t, d, 2)
	// The constant has the error 2^-30; the gains are rounded, by up to 2^-30, and add 2^-63 and 2^-62; the product adds
	// 2 * 2^-31 * 2^-30 + 2^-60.
	unit := scaled(1, -30)
	for i, want := range map[int]*big.Rat{4: unit, 5: sumOf(unit, scaled(1, -62)), 6: sumOf(unit, scaled(1, -62)), 7: sumOf(unit, scaled(2, -60))} {
		if x := fractionOf(c.Err[i]); x.Cmp(want) != 0 {
			t.Errorf("block %d has the error %v, not %v", i, x, want)
		}
	}
}

func TestMakeEmptyDiagrams(t *testing.T) {
	for _, d := range []api.Diagram{{}, {Inputs: []api.Port{{Lo: -3, Hi: 4, Frac: 30}}}} {
		for rounds := 1; rounds <= 16; rounds++ {
			expectMake(t, "no blocks", d, rounds, nil)
			checkMake(t, d, rounds)
		}
	}
}

// loop is a ring of n delays and a tail of m of them. Each delay has the next one as its argument, so that an error gets only to one
// more of them in a round; the last one has the sum of a rounded constant and of the first one of the ring times a gain.
func loop(n, m int, gain api.Scalar) api.Diagram {
	var d api.Diagram
	for i := range m + n {
		d.Blocks = append(d.Blocks, api.Block{Kind: api.BlockDelay, Args: []int{i + 1}})
	}
	d.Blocks = append(d.Blocks,
		api.Block{Kind: api.BlockAdd, Args: []int{m + n + 1, m + n + 2}},
		api.Block{Kind: api.BlockConst, Value: api.Scalar{Num: 1, Exp: -33}},
		api.Block{Kind: api.BlockGain, Args: []int{m}, Value: gain})
	return d
}

// With this gain errors change in 5 rounds for each delay, also in the last round before there are only powers of two and in the first
// one with them.
func TestMakeAtTheFirstLimitOfRounds(t *testing.T) {
	for n := 1; n <= 40; n++ {
		is, how := checkMake(t, loop(n, 0, api.Scalar{Num: 1, Exp: -10}), 1)
		if want := 5*n + 1; !is || n <= 12 && how.rounds != want || n > 12 && how.rounds <= 64 {
			t.Errorf("%d delays: %v, %v", n, is, how)
		}
	}
}

// Delays get their errors one after the other: where each one has the one before as its argument, a round reaches all of them.
func TestMakeInOrderOfDelays(t *testing.T) {
	for n := 1; n <= 60; n++ {
		up := loop(n, 0, api.Scalar{Num: 1, Exp: -10})
		down := copiedDiagram(up)
		for i := range n {
			down.Blocks[i].Args[0] = i - 1
		}
		down.Blocks[0].Args[0] = n
		down.Blocks[n+2].Args[0] = n - 1
		is, how := checkMake(t, down, 1)
		if !is || how != (made{6, 0}) {
			t.Errorf("%d delays: %v, %v", n, is, how)
		}
	}
}

// Rounds end behind the last one that is permitted, which must not change anything: one more delay, and there are no errors.
func TestMakeAtTheLastLimitOfRounds(t *testing.T) {
	for m := range 4 {
		d := loop(8, 21+m, api.Scalar{Num: 1<<8 - 1, Exp: -8})
		is, how := checkMake(t, d, 1)
		if want := 126 + m; want <= 128 && (!is || how != made{want, 0}) || want > 128 && is {
			t.Errorf("%d rounds: %v, %v", want, is, how)
		}
	}
}

// A power of two stays what it is: the first delay gets the error of the last one in a later round.
func TestMakeKeepsPowers(t *testing.T) {
	d := api.Diagram{Inputs: []api.Port{{Lo: -1, Hi: 1}}, Blocks: []api.Block{
		{Kind: api.BlockDelay, Args: []int{4}},
		{Kind: api.BlockInput, Args: []int{0}},
		{Kind: api.BlockGain, Args: []int{4}, Value: api.Scalar{Num: 31, Exp: -5}},
		{Kind: api.BlockAdd, Args: []int{1, 2}},
		{Kind: api.BlockDelay, Args: []int{3}},
	}}
	expectMake(t, "a late delay", d, 1, []int{25, 30, 25, 25, 25}, scaled(1, -19), new(big.Rat), scaled(63, -25), scaled(1, -19), scaled(1, -19))
}

func TestMakeOfAllSizes(t *testing.T) {
	r := rand.New(rand.NewSource(2))
	none, direct, powers, lessened, useless := 0, 0, 0, 0, 0
	for i, d := range diagrams(r, 16, 36) {
		if i%3 == 0 {
			d = slowed(r, d)
		}
		is, how := checkMake(t, d, 1+r.Intn(16))
		switch {
		case !is && how.lessened == 0:
			none++
		case !is:
			useless++
		case how.rounds > 64:
			powers++
		case how.lessened > 0:
			lessened++
		default:
			direct++
		}
	}
	if none < 50 || direct < 100 || powers < 50 || lessened < 50 || useless < 10 {
		t.Errorf("no signals %d, certificates %d, with powers of two %d, with less scales %d, in vain %d", none, direct, powers, lessened, useless)
	}
}

func TestMakeOfGreatDiagrams(t *testing.T) {
	r := rand.New(rand.NewSource(3))
	seen := 0
	for i := range 24 {
		if is, _ := checkMake(t, anyDiagram(r, api.MaxBlocks-i%8, i%styles), 1+r.Intn(16)); is {
			seen++
		}
	}
	if seen < 3 {
		t.Errorf("only %d certificates of great diagrams", seen)
	}
}

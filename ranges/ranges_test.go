package ranges

import (
	"math/big"
	"math/rand"
	"slices"
	"testing"

	"commutator/api"
	"commutator/dyadic"
	"commutator/interval"
)

// P12.1: every function returns what is specified.

// texts returns the texts of intervals.
func texts(list []api.Interval) []string {
	var s []string
	for _, a := range list {
		s = append(s, interval.Text(a))
	}
	return s
}

// checkEval compares ranges with the reference, and reports whether all of them are short enough.
func checkEval(t *testing.T, d api.Diagram, inv []span) bool {
	t.Helper()
	ranges, err := Eval(d, intervalsOf(inv))
	want, ok := rangesOf(d, inv)
	if !ok {
		if len(ranges) > 0 || err != api.ErrLarge {
			t.Fatalf("Eval(%v, %v) = %v, %v, not too large", d, inv, ranges, err)
		}
		return false
	}
	if !sameRanges(ranges, intervalsOf(want)) || err != nil {
		t.Fatalf("Eval(%v, %v) = %v, %v, not %v", d, inv, texts(ranges), err, texts(intervalsOf(want)))
	}
	return true
}

// checkClosed compares with the reference, and returns what it expects.
func checkClosed(t *testing.T, d api.Diagram, inv []span) (is bool, wantErr error) {
	t.Helper()
	spans, ok := rangesOf(d, inv)
	if ok {
		is = closedOf(d, inv, spans)
	} else {
		wantErr = api.ErrLarge
	}
	if got, err := Closed(d, intervalsOf(inv)); got != is || err != wantErr {
		t.Fatalf("Closed(%v, %v) = %v, %v, not %v, %v", d, texts(intervalsOf(inv)), got, err, is, wantErr)
	}
	return is, wantErr
}

// checkInfer compares with the reference, and returns what it expects.
func checkInfer(t *testing.T, d api.Diagram, rounds int) (changes int, wantErr error) {
	t.Helper()
	want, changes, wantErr := inferOf(d, rounds)
	if inv, err := Infer(d, rounds); !sameRanges(inv, intervalsOf(want)) || err != wantErr {
		t.Fatalf("Infer(%v, %d) = %v, %v, not %v, %v", d, rounds, texts(inv), err, texts(intervalsOf(want)), wantErr)
	}
	return changes, wantErr
}

func checkTexts(t *testing.T, name string, list []api.Interval, err error, want ...string) {
	t.Helper()
	if got := texts(list); !slices.Equal(got, want) || err != nil {
		t.Errorf("%s: %v, %v, not %v", name, got, err, want)
	}
}

func TestExamples(t *testing.T) {
	inv, err := Infer(filter(), 2)
	checkTexts(t, "2 rounds", inv, err, "[-2, 2]")
	if is, err := Closed(filter(), inv); !is || err != nil {
		t.Errorf("-2..2 is closed: %v, %v", is, err)
	}
	inv = []api.Interval{{}}
	for _, want := range []string{"[-1, 1]", "[-3/2^1, 3/2^1]", "[-7/2^2, 7/2^2]"} {
		if is, err := Closed(filter(), inv); is || err != nil {
			t.Errorf("%v is closed: %v, %v", texts(inv), is, err)
		}
		ranges, err := Eval(filter(), inv)
		if err != nil {
			t.Fatal(err)
		}
		inv = []api.Interval{interval.Hull(inv[0], ranges[2])}
		checkTexts(t, "a round", inv, nil, want)
	}
}

// operation is a block of two inputs and its value in quarters, where the inputs are in halves.
type operation struct {
	block api.Block
	of    func(x, y int) int
}

func operations() []operation {
	half, minus := api.Scalar{Num: 3, Exp: -1}, api.Scalar{Num: -1}
	both, one, other := []int{0, 1}, []int{0}, []int{1}
	return []operation{
		{api.Block{Kind: api.BlockInput, Args: one}, func(x, y int) int { return 2 * x }},
		{api.Block{Kind: api.BlockInput, Args: other}, func(x, y int) int { return 2 * y }},
		{api.Block{Kind: api.BlockConst, Value: half}, func(x, y int) int { return 6 }},
		{api.Block{Kind: api.BlockAdd, Args: both}, func(x, y int) int { return 2*x + 2*y }},
		{api.Block{Kind: api.BlockSub, Args: both}, func(x, y int) int { return 2*x - 2*y }},
		{api.Block{Kind: api.BlockNeg, Args: other}, func(x, y int) int { return -2 * y }},
		{api.Block{Kind: api.BlockGain, Args: one, Value: half}, func(x, y int) int { return 3 * x }},
		{api.Block{Kind: api.BlockGain, Args: other, Value: minus}, func(x, y int) int { return -2 * y }},
		{api.Block{Kind: api.BlockGain, Args: other}, func(x, y int) int { return 0 }},
		{api.Block{Kind: api.BlockMul, Args: both}, func(x, y int) int { return x * y }},
		{api.Block{Kind: api.BlockMin, Args: both}, func(x, y int) int { return 2 * min(x, y) }},
		{api.Block{Kind: api.BlockMax, Args: both}, func(x, y int) int { return 2 * max(x, y) }},
		{api.Block{Kind: api.BlockAbs, Args: one}, func(x, y int) int { return 2 * max(x, -x) }},
		{api.Block{Kind: api.BlockClip, Args: other, Value: minus, Upper: half}, func(x, y int) int { return 2 * max(-2, min(y, 3)) }},
		{api.Block{Kind: api.BlockClip, Args: other, Value: minus, Upper: minus}, func(x, y int) int { return -4 }},
	}
}

// quarters returns the interval of all values of an operation for halves from p and from q.
func (op operation) quarters(p, q api.Port) api.Interval {
	values := []int{op.of(p.Lo, q.Lo)}
	for x := p.Lo; x <= p.Hi; x++ {
		for y := q.Lo; y <= q.Hi; y++ {
			values = append(values, op.of(x, y))
		}
	}
	return interval.Scale(interval.Ints(slices.Min(values), slices.Max(values)), dyadic.Shift(dyadic.Of(1), -2))
}

func TestEveryKind(t *testing.T) {
	var ports []api.Port
	for lo := -4; lo <= 4; lo++ {
		for hi := lo; hi <= 4; hi++ {
			ports = append(ports, api.Port{Lo: lo, Hi: hi, Frac: 1})
		}
	}
	for _, op := range operations() {
		d := api.Diagram{Blocks: []api.Block{{Kind: api.BlockInput, Args: []int{0}}, {Kind: api.BlockInput, Args: []int{1}}, op.block}}
		for _, p := range ports {
			for _, q := range ports {
				d.Inputs = []api.Port{p, q}
				ranges, err := Eval(d, nil)
				if err != nil || len(ranges) != 3 || !sameRanges(ranges[2:], []api.Interval{op.quarters(p, q)}) {
					t.Fatalf("%v of %v and %v: %v, %v", op.block, p, q, texts(ranges), err)
				}
			}
		}
	}
}

// The arguments of a block count for themselves, also where they are the same block.
func TestSameArgumentTwice(t *testing.T) {
	d := api.Diagram{Inputs: []api.Port{{Lo: -2, Hi: 3}}, Blocks: []api.Block{
		{Kind: api.BlockInput, Args: []int{0}},
		{Kind: api.BlockMul, Args: []int{0, 0}},
		{Kind: api.BlockSub, Args: []int{0, 0}},
		{Kind: api.BlockMin, Args: []int{0, 0}},
	}}
	ranges, err := Eval(d, nil)
	checkTexts(t, "the same argument twice", ranges, err, "[-2, 3]", "[-6, 9]", "[-5, 5]", "[-2, 3]")
}

// Delays have the elements of the invariants in the order of their numbers, and blocks stand before or behind their arguments.
func TestOrderOfDelays(t *testing.T) {
	d := api.Diagram{Blocks: []api.Block{
		{Kind: api.BlockNeg, Args: []int{2}},
		{Kind: api.BlockDelay, Args: []int{5}, Value: api.Scalar{Num: 9}},
		{Kind: api.BlockAdd, Args: []int{3, 1}},
		{Kind: api.BlockDelay, Args: []int{1}},
		{Kind: api.BlockDelay, Args: []int{0}},
		{Kind: api.BlockConst, Value: api.Scalar{Num: 7}},
	}}
	ranges, err := Eval(d, []api.Interval{interval.Ints(7, 9), interval.Ints(0, 20), interval.Ints(-29, 0)})
	checkTexts(t, "three delays", ranges, err, "[-29, -7]", "[7, 9]", "[7, 29]", "[0, 20]", "[-29, 0]", "[7, 7]")
	for _, c := range []struct {
		first, second, third api.Interval
		want                 bool
	}{
		{interval.Ints(7, 9), interval.Ints(0, 20), interval.Ints(-29, 0), true},
		{interval.Ints(7, 9), interval.Ints(0, 9), interval.Ints(-18, 0), true},
		{interval.Ints(8, 9), interval.Ints(0, 20), interval.Ints(-29, 0), false},
		{interval.Ints(7, 8), interval.Ints(0, 20), interval.Ints(-29, 0), false},
		{interval.Ints(7, 9), interval.Ints(0, 8), interval.Ints(-29, 0), false},
		{interval.Ints(7, 9), interval.Ints(1, 20), interval.Ints(-29, 0), false},
		{interval.Ints(7, 9), interval.Ints(0, 20), interval.Ints(-28, 0), false},
		{interval.Ints(7, 9), interval.Ints(0, 20), interval.Ints(-29, -7), false},
	} {
		inv := []api.Interval{c.first, c.second, c.third}
		if is, err := Closed(d, inv); is != c.want || err != nil {
			t.Errorf("%v is closed: %v, %v", texts(inv), is, err)
		}
	}
	inv, err := Infer(d, 5)
	checkTexts(t, "three delays", inv, err, "[7, 9]", "[0, 9]", "[-18, 0]")
}

// count counts what a test has seen, by its error; it fails if there is little of something.
type count map[error]int

func (c count) check(t *testing.T, list ...error) {
	t.Helper()
	for _, err := range list {
		if c[err] < 40 {
			t.Errorf("only %d calls have the error %v", c[err], err)
		}
	}
}

func TestEvalOfAllSizes(t *testing.T) {
	r := rand.New(rand.NewSource(1))
	seen := count{}
	for _, d := range diagrams(2, api.MaxBlocks) {
		for range 4 {
			if checkEval(t, d, anyInvariants(r, d)) {
				seen[nil]++
			} else {
				seen[api.ErrLarge]++
			}
		}
	}
	seen.check(t, nil, api.ErrLarge)
}

// nearly returns invariants of which one end is moved by a little.
func nearly(r *rand.Rand, inv []span) []span {
	inv = slices.Clone(inv)
	if len(inv) == 0 {
		return inv
	}
	s := &inv[r.Intn(len(inv))]
	by := scaled(1-2*r.Intn(2), -70)
	if moved := by.Add(by, s.lo); r.Intn(2) == 0 && moved.Cmp(s.hi) <= 0 {
		s.lo = moved
	} else if by.Sub(by, s.lo).Add(by, s.hi).Cmp(s.lo) >= 0 {
		s.hi = by
	}
	return inv
}

func TestClosedOfAllSizes(t *testing.T) {
	r := rand.New(rand.NewSource(3))
	seen := count{}
	closed := [2]int{}
	add := func(is bool, err error) {
		seen[err]++
		if err == nil && is {
			closed[1]++
		} else if err == nil {
			closed[0]++
		}
	}
	for _, d := range diagrams(4, api.MaxBlocks) {
		add(checkClosed(t, d, anyInvariants(r, d)))
		add(checkClosed(t, d, startOf(d)))
		if inv, _, err := inferOf(d, 1+r.Intn(16)); err == nil {
			add(checkClosed(t, d, inv))
			add(checkClosed(t, d, nearly(r, inv)))
		}
	}
	seen.check(t, nil, api.ErrLarge)
	if closed[0] < 100 || closed[1] < 100 {
		t.Errorf("%d invariants are not closed, %d are", closed[0], closed[1])
	}
}

func TestInferOfAllSizes(t *testing.T) {
	r := rand.New(rand.NewSource(5))
	seen := count{}
	few, many := 0, 0
	for _, d := range diagrams(6, api.MaxBlocks) {
		for range 2 {
			rounds := 1 + r.Intn(16)
			changes, err := checkInfer(t, d, rounds)
			seen[err]++
			if err == nil && changes > rounds {
				many++
			} else if err == nil && changes > 0 {
				few++
			}
		}
	}
	seen.check(t, nil, api.ErrLarge, api.ErrUnknown)
	if few < 40 || many < 40 {
		t.Errorf("%d diagrams change in the first rounds only, %d in later ones", few, many)
	}
}

// chain is a chain of n delays with the initial value 0 behind a constant.
func chain(n int, front api.Scalar) api.Diagram {
	d := api.Diagram{Blocks: []api.Block{{Kind: api.BlockConst, Value: front}}}
	for i := range n {
		d.Blocks = append(d.Blocks, api.Block{Kind: api.BlockDelay, Args: []int{i}})
	}
	return d
}

// Each round reaches one more delay of a chain.
func TestFirstRoundsReplace(t *testing.T) {
	for rounds := 1; rounds <= 16; rounds++ {
		for n := range 20 {
			inv, err := Infer(chain(n, api.Scalar{Num: 5}), rounds)
			var want []string
			for place := range n {
				if place < rounds {
					want = append(want, "[0, 5]")
				} else {
					want = append(want, "[0, 8]")
				}
			}
			checkTexts(t, "a chain", inv, err, want...)
		}
	}
}

// ends are numbers around those to which ends go further outward.
func ends() []api.Scalar {
	list := []api.Scalar{{}}
	for exp := -62; exp <= 30; exp++ {
		for _, num := range []int{1, 2, 3, 5, 7, 8, 1<<31 - 1, 1<<30 + 1, 1 << 30} {
			list = append(list, api.Scalar{Num: num, Exp: exp}, api.Scalar{Num: -num, Exp: exp})
		}
	}
	return list
}

// furtherOf returns the hull of start and end with the end that is not start's moved further outward.
func furtherOf(steps []*big.Rat, start, end api.Scalar) span {
	s := hullOf(scalarOf(start), scalarOf(end))
	if s.lo.Cmp(scalarOf(start)) != 0 {
		s.lo = downOf(steps, s.lo)
	}
	if s.hi.Cmp(scalarOf(start)) != 0 {
		s.hi = upOf(steps, s.hi)
	}
	return s
}

// The second delay of a chain changes in the second round, to an end that may be positive or negative on either side.
func TestLaterRoundsGoFurtherOutward(t *testing.T) {
	steps, limit := stepsOf(), span{scaled(-1, 40), scaled(1, 40)}
	for _, end := range ends() {
		if !limit.contains(scalarOf(end)) {
			continue
		}
		for _, start := range []api.Scalar{{Num: 1 << 20, Exp: 18}, {Num: -1 << 20, Exp: 18}, {Num: 1, Exp: -40}, {Num: -1, Exp: -40}, {}} {
			d := chain(2, end)
			d.Blocks[1].Value, d.Blocks[2].Value = start, start
			first, later := hullOf(scalarOf(start), scalarOf(end)), furtherOf(steps, start, end)
			for rounds, want := range map[int][]span{1: {first, later}, 2: {first, first}} {
				if inv, err := Infer(d, rounds); !sameRanges(inv, intervalsOf(want)) || err != nil {
					t.Fatalf("from %v to %v in %d rounds: %v, %v", start, end, rounds, texts(inv), err)
				}
			}
		}
	}
}

// fine is a delay that starts at 0 behind a value of n * 2^-70.
func fine(n int) api.Diagram {
	return api.Diagram{Blocks: []api.Block{
		{Kind: api.BlockConst, Value: api.Scalar{Num: n, Exp: -62}},
		{Kind: api.BlockGain, Args: []int{0}, Value: api.Scalar{Num: 1, Exp: -8}},
		{Kind: api.BlockDelay, Args: []int{1}},
		{Kind: api.BlockDelay, Args: []int{2}},
	}}
}

func TestRoundsAreRoundedOutward(t *testing.T) {
	for _, c := range []struct {
		n             int
		first, second string
	}{
		{0, "[0, 0]", "[0, 0]"},
		{1, "[0, 1/2^64]", "[0, 1/2^30]"},
		{64, "[0, 1/2^64]", "[0, 1/2^30]"},
		{65, "[0, 1/2^63]", "[0, 1/2^30]"},
		{-1, "[-1/2^64, 0]", "[-1/2^30, 0]"},
		{-129, "[-3/2^64, 0]", "[-1/2^30, 0]"},
	} {
		inv, err := Infer(fine(c.n), 1)
		checkTexts(t, "a fine value", inv, err, c.first, c.second)
		inv, err = Infer(fine(c.n), 2)
		checkTexts(t, "a fine value", inv, err, c.first, c.first)
	}
}

// An end that a round does not change stays where it is, on whatever side of 0.
func TestOtherEndsStay(t *testing.T) {
	for _, c := range []struct {
		start, by, stop api.Scalar
		want            string
	}{
		{api.Scalar{Num: 3}, api.Scalar{Num: -1}, api.Scalar{Num: -5}, "[-8, 3]"},
		{api.Scalar{Num: -3}, api.Scalar{Num: 1}, api.Scalar{Num: 5}, "[-3, 8]"},
		{api.Scalar{Num: 13}, api.Scalar{Num: -1}, api.Scalar{Num: 5}, "[4, 13]"},
		{api.Scalar{Num: -13}, api.Scalar{Num: 1}, api.Scalar{Num: -5}, "[-13, -4]"},
		{api.Scalar{Num: 13}, api.Scalar{Num: -1}, api.Scalar{Num: 8}, "[8, 13]"},
	} {
		d := api.Diagram{Blocks: []api.Block{
			{Kind: api.BlockDelay, Args: []int{3}, Value: c.start},
			{Kind: api.BlockConst, Value: c.by},
			{Kind: api.BlockAdd, Args: []int{0, 1}},
			{Kind: api.BlockClip, Args: []int{2}, Value: api.Scalar{Num: -32}, Upper: c.stop},
		}}
		if c.by.Num < 0 {
			d.Blocks[3].Value, d.Blocks[3].Upper = c.stop, api.Scalar{Num: 32}
		}
		for rounds := 1; rounds <= 3; rounds++ {
			inv, err := Infer(d, rounds)
			checkTexts(t, "a counter", inv, err, c.want)
			checkInfer(t, d, rounds)
		}
	}
}

func TestDiagramsWithoutDelays(t *testing.T) {
	d := api.Diagram{Inputs: []api.Port{{Lo: -3, Hi: 1, Frac: 2}}, Blocks: []api.Block{{Kind: api.BlockInput, Args: []int{0}}}}
	for _, d := range []api.Diagram{{}, {Inputs: []api.Port{{}}}, d} {
		checkEval(t, d, nil)
		if is, err := Closed(d, nil); !is || err != nil {
			t.Errorf("Closed(%v) = %v, %v", d, is, err)
		}
		if inv, err := Infer(d, 1); len(inv) > 0 || err != nil {
			t.Errorf("Infer(%v) = %v, %v", d, inv, err)
		}
	}
}

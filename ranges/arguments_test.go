package ranges

import (
	"math"
	"math/big"
	"math/rand"
	"slices"
	"testing"

	"commutator/api"
	"commutator/dyadic"
	"commutator/interval"
)

// P12.1 for arguments that are refused, for the ends of the ranges, and for the memory of arguments and results.

// call is a call of Eval and of Closed, which refusals are made of.
type call struct {
	d   api.Diagram
	inv []api.Interval
}

// good is a call with three delays that is accepted.
func good() call {
	d := filter()
	d.Blocks = append(d.Blocks, api.Block{Kind: api.BlockDelay, Args: []int{3}}, api.Block{Kind: api.BlockDelay, Args: []int{4}})
	return call{d, []api.Interval{interval.Ints(-2, 2), interval.Ints(-2, 2), interval.Ints(-3, 2)}}
}

func (c call) refuse(t *testing.T, name string, want error) {
	t.Helper()
	if ranges, err := Eval(c.d, c.inv); len(ranges) > 0 || err != want {
		t.Errorf("%s: Eval = %v, %v, not %v", name, ranges, err, want)
	}
	if is, err := Closed(c.d, c.inv); is || err != want {
		t.Errorf("%s: Closed = %v, %v, not %v", name, is, err, want)
	}
}

func refuseInfer(t *testing.T, d api.Diagram, rounds int, want error) {
	t.Helper()
	if inv, err := Infer(d, rounds); len(inv) > 0 || err != want {
		t.Errorf("Infer(%v, %d) = %v, %v, not %v", d, rounds, texts(inv), err, want)
	}
}

type fault struct {
	name string
	make func(c *call)
	want error
}

// diagramFaults has each error of layer 10.
func diagramFaults() []fault {
	return []fault{
		{"many inputs", func(c *call) { c.d.Inputs = make([]api.Port, 17) }, api.ErrLarge},
		{"port", func(c *call) { c.d.Inputs[0].Frac = 31 }, api.ErrRange},
		{"kind", func(c *call) { c.d.Blocks[0].Kind = 12 }, api.ErrType},
		{"arguments", func(c *call) { c.d.Blocks[0].Args = nil }, api.ErrShape},
		{"argument", func(c *call) { c.d.Blocks[1].Args[0] = 6 }, api.ErrIndex},
		{"scalar", func(c *call) { c.d.Blocks[3].Value.Exp = 31 }, api.ErrRange},
		{"unused scalar", func(c *call) { c.d.Blocks[3].Upper.Exp = 1 }, api.ErrForm},
		{"clip", func(c *call) {
			c.d.Blocks[1] = api.Block{Kind: api.BlockClip, Args: []int{3}, Value: api.Scalar{Num: 1}}
		}, api.ErrOrder},
		{"output", func(c *call) { c.d.Outputs[0] = -1 }, api.ErrIndex},
		{"circle", func(c *call) { c.d.Blocks[1].Args[0] = 2 }, api.ErrCycle},
	}
}

func wrongIntervals() []api.Interval {
	var list []api.Interval
	for _, x := range []api.Dyadic{
		{Neg: true},
		{Den: 1},
		{Words: []uint32{0}},
		{Words: []uint32{1, 0}},
		{Words: []uint32{2}, Den: 1},
		{Words: []uint32{1}, Den: -1},
		{Words: []uint32{1}, Den: api.MaxDen + 1},
		{Words: make([]uint32, 1000)},
		{Den: math.MinInt},
		{Words: []uint32{1}, Den: math.MaxInt},
	} {
		list = append(list, api.Interval{Lo: x}, api.Interval{Hi: x}, api.Interval{Lo: x, Hi: x})
	}
	return append(list,
		api.Interval{Lo: dyadic.Of(1)},
		api.Interval{Hi: dyadic.Of(-1)},
		api.Interval{Lo: dyadic.Of(3), Hi: dyadic.Of(2)},
		api.Interval{Lo: power(5000), Hi: power(4999)},
		api.Interval{Lo: dyadic.Neg(power(-5001)), Hi: dyadic.Neg(power(-5000))},
	)
}

// ones returns 2^bits - 1.
func ones(bits int) api.Dyadic {
	return dyadic.Sub(power(bits), dyadic.Of(1))
}

// longNumbers are valid, but longer than 4096.
func longNumbers() []api.Dyadic {
	return []api.Dyadic{
		power(4096), ones(4097), dyadic.Neg(power(4096)), power(-4097), dyadic.Neg(power(-4097)), dyadic.Shift(ones(4097), -4000),
		dyadic.Shift(dyadic.Of(3), -4097), dyadic.Add(power(2048), power(-2048)), power(-api.MaxDen), power(1 << 16), ones(100000),
	}
}

// shortNumbers are the longest ones that are short enough.
func shortNumbers() []api.Dyadic {
	return []api.Dyadic{
		{}, power(4095), ones(4096), dyadic.Neg(power(4095)), dyadic.Neg(ones(4096)), power(-4096), dyadic.Shift(ones(4096), -4096),
		dyadic.Shift(dyadic.Of(-3), -4096), dyadic.Add(power(2047), power(-2048)), dyadic.Shift(ones(4096), -1),
	}
}

// around returns intervals with x and 0, or twice x, as their ends.
func around(x api.Dyadic) []api.Interval {
	return []api.Interval{interval.Point(x), interval.Hull(interval.Point(x), api.Interval{})}
}

// invariantFaults are the things that are wrong with invariants, in the order in which they are found.
func invariantFaults() []fault {
	var list []fault
	add := func(name string, want error, change func(c *call)) {
		list = append(list, fault{name, change, want})
	}
	for _, n := range []int{0, 1, 2, 4, 64, 1000} {
		add("number of invariants", api.ErrShape, func(c *call) { c.inv = make([]api.Interval, n) })
	}
	for i := range good().inv {
		for _, x := range wrongIntervals() {
			add("invariant", api.ErrForm, func(c *call) { c.inv = with(c.inv, i, x) })
		}
	}
	for i := range good().inv {
		for _, x := range longNumbers() {
			for _, a := range around(x) {
				add("long invariant", api.ErrLarge, func(c *call) { c.inv = with(c.inv, i, a) })
			}
		}
	}
	return list
}

// with returns a list that may be too short for it with x as element i.
func with[T any](list []T, i int, x T) []T {
	list = slices.Clone(list)
	if i < len(list) {
		list[i] = x
	}
	return list
}

func (f fault) in(c call) call {
	c.d = copied(c.d)
	f.make(&c)
	return c
}

func TestGoodCallIsAccepted(t *testing.T) {
	c := good()
	ranges, err := Eval(c.d, c.inv)
	checkTexts(t, "a good call", ranges, err, "[-1, 1]", "[-1, 1]", "[-2, 2]", "[-2, 2]", "[-2, 2]", "[-3, 2]")
	if is, err := Closed(c.d, c.inv); !is || err != nil {
		t.Errorf("a good call is closed: %v, %v", is, err)
	}
}

func TestDiagramFaults(t *testing.T) {
	for _, f := range diagramFaults() {
		c := f.in(good())
		c.refuse(t, f.name, f.want)
		for _, g := range invariantFaults() {
			g.in(c).refuse(t, f.name+" before "+g.name, f.want)
		}
		for _, rounds := range []int{1, 16, 0, 17, -1, math.MinInt, math.MaxInt} {
			refuseInfer(t, c.d, rounds, f.want)
		}
	}
}

// Rule 1 of the document: of two faults, the one that is to be found first is found.
func TestFirstFaultIsFound(t *testing.T) {
	list := invariantFaults()
	for i, f := range list {
		f.in(good()).refuse(t, f.name, f.want)
		for _, g := range list[i:] {
			// The first fault is made last, as it may be at the same place.
			f.in(g.in(good())).refuse(t, f.name+" before "+g.name, f.want)
		}
	}
}

func TestNumberOfRounds(t *testing.T) {
	unbounded := filter()
	unbounded.Blocks[3].Value = api.Scalar{Num: 1<<30 + 1, Exp: 10}
	for _, d := range []api.Diagram{{}, filter(), good().d, unbounded, squares(12)} {
		for _, rounds := range []int{math.MinInt, -1 << 32, -1, 0, 17, 18, 1 << 32, 1<<32 + 1, math.MaxInt} {
			refuseInfer(t, d, rounds, api.ErrRange)
		}
	}
	for rounds := 1; rounds <= 16; rounds++ {
		inv, err := Infer(filter(), rounds)
		checkTexts(t, "the filter", inv, err, "[-2, 2]")
	}
}

func TestLengthOfInvariants(t *testing.T) {
	d := api.Diagram{Blocks: []api.Block{{Kind: api.BlockConst}, {Kind: api.BlockDelay, Args: []int{0}}, {Kind: api.BlockDelay, Args: []int{1}}}}
	for _, x := range shortNumbers() {
		for _, a := range around(x) {
			ranges, err := Eval(d, []api.Interval{{}, a})
			if !sameRanges(ranges, []api.Interval{{}, {}, a}) || err != nil {
				t.Errorf("%v: %v, %v", a, ranges, err)
			}
			checkClosed(t, d, spansOf([]api.Interval{a, a}))
		}
	}
	for _, x := range longNumbers() {
		for _, a := range around(x) {
			for i := range 2 {
				call{d, with(make([]api.Interval, 2), i, a)}.refuse(t, "long invariant", api.ErrLarge)
			}
		}
	}
	many := slices.Repeat([]uint32{1}, 1<<20)
	call{d, []api.Interval{{Hi: api.Dyadic{Words: many}}, {}}}.refuse(t, "invariant of many words", api.ErrLarge)
}

// longRange is a block of two delays and invariants for which an end of its range has the longest permitted length or is longer.
type longRange struct {
	block api.Block
	x, y  api.Interval
	ok    bool
}

func longRanges() []longRange {
	one, half := dyadic.Of(1), api.Scalar{Num: 1, Exp: -1}
	add := api.Block{Kind: api.BlockAdd, Args: []int{0, 1}}
	sub := api.Block{Kind: api.BlockSub, Args: []int{0, 1}}
	mul := api.Block{Kind: api.BlockMul, Args: []int{0, 1}}
	halve := api.Block{Kind: api.BlockGain, Args: []int{0}, Value: half}
	to := func(x api.Dyadic) api.Interval { return interval.Hull(interval.Point(x), api.Interval{}) }
	return []longRange{
		{add, to(ones(4096)), to(api.Dyadic{}), true},
		{add, to(ones(4096)), to(one), false},
		{add, to(ones(4096)), to(dyadic.Neg(one)), true},
		{add, to(dyadic.Neg(ones(4096))), to(dyadic.Neg(one)), false},
		{add, to(power(2047)), to(power(-2048)), true},
		{add, to(power(2048)), to(power(-2048)), false},
		{sub, to(ones(4096)), to(one), true},
		{sub, to(ones(4096)), to(dyadic.Neg(one)), false},
		{sub, to(dyadic.Neg(ones(4096))), to(one), false},
		{mul, to(power(2048)), to(power(2047)), true},
		{mul, to(power(2048)), to(power(2048)), false},
		{mul, to(power(2048)), to(dyadic.Neg(power(2048))), false},
		{mul, to(power(-2048)), to(power(-2048)), true},
		{mul, to(power(-2048)), to(dyadic.Neg(power(-2049))), false},
		{halve, to(power(-4095)), to(one), true},
		{halve, to(power(-4096)), to(one), false},
		{halve, to(dyadic.Neg(power(-4096))), to(one), false},
	}
}

func TestLengthOfRanges(t *testing.T) {
	for i, c := range longRanges() {
		d := api.Diagram{Blocks: []api.Block{{Kind: api.BlockDelay, Args: []int{0}}, {Kind: api.BlockDelay, Args: []int{1}}, c.block}}
		inv := spansOf([]api.Interval{c.x, c.y})
		if checkEval(t, d, inv) != c.ok {
			t.Errorf("ranges %d: not %v", i, c.ok)
		}
		checkClosed(t, d, inv)
		// A block that makes the range short again does not help.
		d.Blocks = append(d.Blocks, api.Block{Kind: api.BlockClip, Args: []int{2}})
		d.Outputs = []int{3}
		if checkEval(t, d, inv) != c.ok {
			t.Errorf("ranges %d with a clip behind them: not %v", i, c.ok)
		}
	}
}

// squares is an input with the range 0..3 and a chain of n squares of it, and a delay of the last one, clipped to 0..1.
func squares(n int) api.Diagram {
	d := api.Diagram{Inputs: []api.Port{{Hi: 3}}, Blocks: []api.Block{{Kind: api.BlockInput, Args: []int{0}}}}
	for i := range n {
		d.Blocks = append(d.Blocks, api.Block{Kind: api.BlockMul, Args: []int{i, i}})
	}
	d.Blocks = append(d.Blocks, api.Block{Kind: api.BlockClip, Args: []int{n}, Upper: api.Scalar{Num: 1}})
	d.Blocks = append(d.Blocks, api.Block{Kind: api.BlockDelay, Args: []int{n + 1}})
	return d
}

// The length doubles from block to block, so that only a stop at the first range that is too long comes to an end.
func TestChainsOfProducts(t *testing.T) {
	// 3^2048 has 3247 bits.
	inv, err := Infer(squares(11), 1)
	checkTexts(t, "11 squares", inv, err, "[0, 1]")
	for _, n := range []int{12, 13, 61} {
		d := squares(n)
		refuseInfer(t, d, 1, api.ErrLarge)
		call{d, []api.Interval{interval.Ints(0, 1)}}.refuse(t, "squares", api.ErrLarge)
	}
}

// Infer has the error of Eval also in a later round, when invariants have become wide.
func TestRangesThatGetLong(t *testing.T) {
	d := api.Diagram{Blocks: []api.Block{
		{Kind: api.BlockDelay, Args: []int{1}},
		{Kind: api.BlockClip, Args: []int{2}, Value: api.Scalar{}, Upper: api.Scalar{Num: 1 << 20}},
		{Kind: api.BlockAdd, Args: []int{0, 3}},
		{Kind: api.BlockConst, Value: api.Scalar{Num: 1}},
		{Kind: api.BlockMul, Args: []int{0, 0}},
	}}
	for range 8 {
		last := len(d.Blocks) - 1
		d.Blocks = append(d.Blocks, api.Block{Kind: api.BlockMul, Args: []int{last, last}})
	}
	// The ends are powers of 512: 2^(512 * 8) is too long, and 0..4 is followed by 0..8 (rounds 1 to 3 give 1, 2, 4).
	for rounds := 1; rounds <= 16; rounds++ {
		if _, err := checkInfer(t, d, rounds); err != api.ErrLarge {
			t.Errorf("%d rounds: %v", rounds, err)
		}
	}
	d.Blocks[1].Upper = api.Scalar{Num: 4}
	for rounds := 1; rounds <= 16; rounds++ {
		if _, err := checkInfer(t, d, rounds); err != nil {
			t.Errorf("%d rounds up to 4: %v", rounds, err)
		}
	}
}

// limits are scalars at and beyond the ends -2^40 and 2^40.
func limits() (inside, beyond []api.Scalar) {
	inside = []api.Scalar{{Num: 1 << 10, Exp: 30}, {Num: 1 << 30, Exp: 10}, {Num: 1<<31 - 1, Exp: 9}}
	beyond = []api.Scalar{{Num: 1<<10 + 1, Exp: 30}, {Num: 1<<30 + 1, Exp: 10}, {Num: 1 << 11, Exp: 30}, {Num: 1<<31 - 1, Exp: 30}}
	for _, list := range []*[]api.Scalar{&inside, &beyond} {
		for _, s := range slices.Clone(*list) {
			*list = append(*list, api.Scalar{Num: -s.Num, Exp: s.Exp})
		}
	}
	return inside, beyond
}

func TestLimitOfInitialValues(t *testing.T) {
	inside, beyond := limits()
	for rounds := 1; rounds <= 16; rounds++ {
		for i := range 3 {
			for _, s := range inside {
				d := chain(3, s)
				d.Blocks[i+1].Value = s
				if _, err := checkInfer(t, d, rounds); err != nil {
					t.Errorf("%v: %v", s, err)
				}
			}
			for _, s := range beyond {
				d := chain(3, api.Scalar{})
				d.Blocks[i+1].Value = s
				refuseInfer(t, d, rounds, api.ErrUnknown)
			}
		}
	}
}

func TestLimitOfRounds(t *testing.T) {
	inside, beyond := limits()
	for rounds := 1; rounds <= 4; rounds++ {
		for n := 1; n <= 6; n++ {
			for _, s := range inside {
				if _, err := checkInfer(t, chain(n, s), rounds); err != nil {
					t.Errorf("%v: %v", s, err)
				}
			}
			for _, s := range beyond {
				refuseInfer(t, chain(n, s), rounds, api.ErrUnknown)
			}
		}
	}
	// A range beyond the limit does not count as long as no delay takes it on.
	for _, s := range beyond {
		d := api.Diagram{Blocks: []api.Block{{Kind: api.BlockConst, Value: s}}}
		d.Blocks = append(d.Blocks, api.Block{Kind: api.BlockClip, Args: []int{0}, Value: api.Scalar{Num: -5}, Upper: api.Scalar{Num: 5}})
		d.Blocks = append(d.Blocks, api.Block{Kind: api.BlockDelay, Args: []int{1}})
		if _, err := checkInfer(t, d, 1); err != nil {
			t.Errorf("%v and a clip: %v", s, err)
		}
	}
}

func TestUnboundedDiagrams(t *testing.T) {
	half, whole, twice := api.Scalar{Num: 1, Exp: -1}, api.Scalar{Num: 1}, api.Scalar{Num: -2}
	for rounds := 1; rounds <= 16; rounds++ {
		for gain, want := range map[api.Scalar]error{half: nil, whole: api.ErrUnknown, twice: api.ErrUnknown} {
			d := filter()
			d.Blocks[1].Value = gain
			if _, err := checkInfer(t, d, rounds); err != want {
				t.Errorf("the gain %v: %v", gain, err)
			}
		}
		// Gains of a little less than 1 have ranges that are closed, but not all of them are found.
		for _, gain := range []api.Scalar{{Num: 1<<20 - 1, Exp: -20}, {Num: 1 - 1<<30, Exp: -30}, {Num: 3, Exp: -2}} {
			d := filter()
			d.Blocks[1].Value = gain
			checkInfer(t, d, rounds)
		}
	}
}

// An initial value beyond the limit is found before a range that is too long, and that before an end that gets beyond it.
func TestOrderOfErrorsOfRounds(t *testing.T) {
	_, beyond := limits()
	for _, s := range beyond {
		d := squares(12)
		delay := len(d.Blocks) - 1
		d.Blocks[delay].Value = s
		refuseInfer(t, d, 1, api.ErrUnknown)
		d.Blocks[delay].Value = api.Scalar{}
		d.Blocks = append(d.Blocks, api.Block{Kind: api.BlockConst, Value: s}, api.Block{Kind: api.BlockDelay, Args: []int{delay + 1}})
		refuseInfer(t, d, 1, api.ErrLarge)
	}
}

// ring is a ring of delays with a gain of 2 that is clipped, so that an end changes in very many rounds.
func ring() api.Diagram {
	d := api.Diagram{Blocks: []api.Block{
		{Kind: api.BlockGain, Args: []int{63}, Value: api.Scalar{Num: -2}},
		{Kind: api.BlockClip, Args: []int{0}, Value: api.Scalar{Num: -1 << 10, Exp: 30}, Upper: api.Scalar{Num: 1 << 10, Exp: 30}},
	}}
	for i := 2; i < api.MaxBlocks; i++ {
		d.Blocks = append(d.Blocks, api.Block{Kind: api.BlockDelay, Args: []int{i - 1}})
	}
	d.Blocks[2].Value = api.Scalar{Num: 1, Exp: -30}
	return d
}

func TestManyRounds(t *testing.T) {
	inv, err := Infer(ring(), 16)
	if err != nil || len(inv) != 62 {
		t.Fatalf("a ring: %v, %v", texts(inv), err)
	}
	for place, a := range inv {
		if want := interval.Ints(-1<<40, 1<<40); !sameRanges([]api.Interval{a}, []api.Interval{want}) {
			t.Errorf("delay %d of a ring is in %v", place, interval.Text(a))
		}
	}
	if is, err := Closed(ring(), inv); !is || err != nil {
		t.Errorf("a ring is closed: %v, %v", is, err)
	}
}

func TestPortsAtTheEndsOfTheirRange(t *testing.T) {
	for _, p := range []api.Port{
		{Lo: -1 << 31, Hi: 1<<31 - 1, Frac: 30}, {Lo: -1 << 31, Hi: 1<<31 - 1}, {Lo: -1 << 31, Hi: -1 << 31, Frac: 30}, {Lo: 1<<31 - 1, Hi: 1<<31 - 1, Frac: 1}, {},
	} {
		d := filter()
		d.Inputs[0] = p
		for _, inv := range [][]span{startOf(d), {{scaled(-1, 33), scaled(1, 33)}}, {{scaled(1, -5), scaled(1, 4000)}}} {
			if !checkEval(t, d, inv) {
				t.Errorf("%v is too long", p)
			}
			checkClosed(t, d, inv)
		}
		checkInfer(t, d, 2)
	}
}

func copiedIntervals(list []api.Interval) []api.Interval {
	list = slices.Clone(list)
	for i := range list {
		list[i].Lo.Words = slices.Clone(list[i].Lo.Words)
		list[i].Hi.Words = slices.Clone(list[i].Hi.Words)
	}
	return list
}

// Rule 3 of the document: arguments stay as they are.
func TestArgumentsStay(t *testing.T) {
	r := rand.New(rand.NewSource(21))
	for _, d := range diagrams(22, 24) {
		inv := intervalsOf(anyInvariants(r, d))
		before, invBefore := copied(d), copiedIntervals(inv)
		Eval(d, inv)
		Closed(d, inv)
		Infer(d, 1+r.Intn(16))
		if !sameDiagram(d, before) || !sameRanges(inv, invBefore) {
			t.Fatalf("%v, %v became %v, %v", before, texts(invBefore), d, texts(inv))
		}
	}
}

// checkMemory overwrites each end, also behind its words, and looks whether another one changes.
func checkMemory(t *testing.T, d api.Diagram, list []api.Interval) {
	t.Helper()
	var numbers []api.Dyadic
	for _, a := range list {
		numbers = append(numbers, a.Lo, a.Hi)
	}
	for i, x := range numbers {
		var before []*big.Rat
		for _, y := range numbers {
			before = append(before, fractionOf(y))
		}
		for j := range x.Words[:cap(x.Words)] {
			x.Words[:cap(x.Words)][j] ^= math.MaxUint32
		}
		for j, y := range numbers {
			if j != i && fractionOf(y).Cmp(before[j]) != 0 {
				t.Fatalf("two ends of %v share memory: %v", d, before[j])
			}
		}
	}
}

// checkLists overwrites each list, also behind its end, and looks whether another one changes.
func checkLists(t *testing.T, d api.Diagram, lists ...[]api.Interval) {
	t.Helper()
	for i, list := range lists {
		var before [][]api.Interval
		for _, other := range lists {
			before = append(before, copiedIntervals(other))
		}
		list = list[:cap(list)]
		for j := range list {
			list[j] = interval.Ints(77, 78+i)
		}
		for j, other := range lists {
			if j != i && !sameRanges(other, before[j]) {
				t.Fatalf("two lists for %v share memory: %v", d, texts(before[j]))
			}
		}
	}
}

// Rule 3 of the document, and rule 7 of the language: results are new memory.
func TestResultsAreNewMemory(t *testing.T) {
	r := rand.New(rand.NewSource(23))
	seen := 0
	for _, d := range append(diagrams(24, 20), good().d, chain(5, api.Scalar{Num: 7})) {
		inv := intervalsOf(anyInvariants(r, d))
		if inferred, err := Infer(d, 1+r.Intn(16)); err == nil {
			ranges, err := Eval(d, inferred)
			if err == nil && len(inferred) > 0 {
				seen++
			}
			checkMemory(t, d, slices.Concat(inferred, ranges))
			checkLists(t, d, inferred, ranges)
		}
		ranges, _ := Eval(d, inv)
		checkMemory(t, d, slices.Concat(inv, ranges))
		checkLists(t, d, inv, ranges)
	}
	if seen < 40 {
		t.Errorf("only %d diagrams have results", seen)
	}
}

package certificate

import (
	"math"
	"math/big"
	"math/rand"
	"slices"
	"testing"

	"commutator/api"
	"commutator/dyadic"
	"commutator/interval"
)

// P16.1 for arguments that are refused, for the order of errors, and for the memory of arguments and results.

// call has the arguments of Check and Verify.
type call struct {
	d api.Diagram
	c api.Cert
}

func good() call {
	s := filterSheet(scaled(1, -3))
	return call{s.d, s.cert()}
}

func (c call) check(t *testing.T, name string, want error) {
	t.Helper()
	if err := Check(c.d, c.c); err != want {
		t.Errorf("%s: Check = %v, not %v", name, err, want)
	}
	is, fault, err := Verify(c.d, c.c)
	if err != want || want != nil && (is || fault != (api.CertFault{})) {
		t.Errorf("%s: Verify = %v, %v, %v, not %v", name, is, fault, err, want)
	}
}

// fault is something wrong; faults with a lesser rank are found first.
type fault struct {
	name string
	rank int
	want error
	make func(c *call)
}

// in returns c with the fault, in new memory.
func (f fault) in(c call) call {
	c = call{copiedDiagram(c.d), copiedCert(c.c)}
	f.make(&c)
	return c
}

// diagramFaults has each error of layer 10.
func diagramFaults() []fault {
	var list []fault
	add := func(name string, want error, change func(d *api.Diagram)) {
		list = append(list, fault{name, 0, want, func(c *call) { change(&c.d) }})
	}
	add("many inputs", api.ErrLarge, func(d *api.Diagram) { d.Inputs = make([]api.Port, 17) })
	add("many blocks", api.ErrLarge, func(d *api.Diagram) { d.Blocks = append(d.Blocks, make([]api.Block, 61)...) })
	add("many outputs", api.ErrLarge, func(d *api.Diagram) { d.Outputs = make([]int, 17) })
	add("port", api.ErrRange, func(d *api.Diagram) { d.Inputs[0].Frac = 31 })
	add("kind", api.ErrType, func(d *api.Diagram) { d.Blocks[0].Kind = 12 })
	add("arguments", api.ErrShape, func(d *api.Diagram) { d.Blocks[0].Args = nil })
	add("argument", api.ErrIndex, func(d *api.Diagram) { d.Blocks[1].Args[0] = 4 })
	add("scalar", api.ErrRange, func(d *api.Diagram) { d.Blocks[3].Value.Exp = 31 })
	add("unused scalar", api.ErrForm, func(d *api.Diagram) { d.Blocks[3].Upper.Exp = 1 })
	add("clip", api.ErrOrder, func(d *api.Diagram) {
		d.Blocks[1] = api.Block{Kind: api.BlockClip, Args: []int{3}, Value: api.Scalar{Num: 1}}
	})
	add("output", api.ErrIndex, func(d *api.Diagram) { d.Outputs[0] = -1 })
	add("circle", api.ErrCycle, func(d *api.Diagram) { d.Blocks[1].Args[0] = 2 })
	return list
}

// shapeFaults are lists with another number of elements than blocks.
func shapeFaults() []fault {
	var list []fault
	for _, n := range []int{0, 1, 3, 5, 64, 1000} {
		list = append(list,
			fault{"number of scales", 1, api.ErrShape, func(c *call) { c.c.Frac = make([]int, n) }},
			fault{"number of ranges", 1, api.ErrShape, func(c *call) { c.c.Range = make([]api.Interval, n) }},
			fault{"number of errors", 1, api.ErrShape, func(c *call) { c.c.Err = make([]api.Dyadic, n) }},
		)
	}
	return append(list, fault{"nothing", 1, api.ErrShape, func(c *call) { c.c = api.Cert{} }})
}

func ones(bits int) api.Dyadic {
	return dyadic.Sub(power(bits), dyadic.Of(1))
}

// wrongNumbers are not valid.
func wrongNumbers() []api.Dyadic {
	return []api.Dyadic{
		{Neg: true}, {Den: 1}, {Words: []uint32{0}}, {Words: []uint32{1, 0}}, {Words: []uint32{2}, Den: 1}, {Words: []uint32{1}, Den: -1},
		{Words: []uint32{1}, Den: api.MaxDen + 1}, {Words: make([]uint32, 1000)}, {Den: math.MinInt}, {Words: []uint32{1}, Den: math.MaxInt},
	}
}

// longNumbers are valid and not below 0, but longer than 4096.
func longNumbers() []api.Dyadic {
	return []api.Dyadic{
		power(4096), ones(4097), power(-4097), dyadic.Shift(ones(4097), -4000), dyadic.Shift(dyadic.Of(3), -4097),
		dyadic.Add(power(2048), power(-2048)), power(-api.MaxDen), power(1 << 16), ones(100000),
	}
}

// shortNumbers are the longest ones that are short enough.
func shortNumbers() []api.Dyadic {
	return []api.Dyadic{
		{}, power(4095), ones(4096), power(-4096), dyadic.Shift(ones(4096), -4096), dyadic.Shift(dyadic.Of(3), -4096),
		dyadic.Add(power(2047), power(-2048)), dyadic.Shift(ones(4096), -1),
	}
}

// blockFaults are wrong elements for each block.
func blockFaults() []fault {
	var list []fault
	for i := range good().d.Blocks {
		addErr := func(name string, rank int, want error, x api.Dyadic) {
			list = append(list, fault{name, rank, want, func(c *call) { c.c.Err = with(c.c.Err, i, x) }})
		}
		addRange := func(name string, rank int, want error, lo, hi api.Dyadic) {
			list = append(list, fault{name, rank, want, func(c *call) { c.c.Range = with(c.c.Range, i, api.Interval{Lo: lo, Hi: hi}) }})
		}
		form, large := 2+2*i, 3+2*i
		for _, x := range wrongNumbers() {
			addErr("form of an error", form, api.ErrForm, x)
			addRange("form of a lower end", form, api.ErrForm, x, dyadic.Of(5))
			addRange("form of an upper end", form, api.ErrForm, dyadic.Of(-5), x)
		}
		for _, x := range append(longNumbers(), shortNumbers()[1:]...) {
			addErr("error below 0", form, api.ErrForm, dyadic.Neg(x))
			addRange("order of ends", form, api.ErrForm, x, dyadic.Neg(x))
		}
		for _, x := range longNumbers() {
			addErr("long error", large, api.ErrLarge, x)
			addRange("long upper end", large, api.ErrLarge, api.Dyadic{}, x)
			addRange("long lower end", large, api.ErrLarge, dyadic.Neg(x), api.Dyadic{})
			addRange("long point", large, api.ErrLarge, x, x)
		}
	}
	return list
}

// with returns a list that may be too short for it with x as element i.
func with[T any](list []T, i int, x T) []T {
	list = slices.Clone(list)
	if i < len(list) {
		list[i] = x
	}
	return list
}

func TestGoodCallIsAccepted(t *testing.T) {
	good().check(t, "a good call", nil)
}

func TestFaults(t *testing.T) {
	for _, f := range slices.Concat(diagramFaults(), shapeFaults(), blockFaults()) {
		f.in(good()).check(t, f.name, f.want)
	}
}

// Rule 1 of the document: with two faults the one that is found first counts.
func TestOrderOfFaults(t *testing.T) {
	all := slices.Concat(diagramFaults(), shapeFaults(), blockFaults())
	for _, f := range all {
		for _, g := range all {
			// The later fault is made first, so that the earlier one is not undone. A range and an error may both be wrong in one block.
			if f.rank < g.rank {
				f.in(g.in(good())).check(t, f.name+" before "+g.name, f.want)
			}
		}
	}
}

func TestLongestNumbers(t *testing.T) {
	for i := range good().d.Blocks {
		for _, x := range shortNumbers() {
			c := good()
			c.c.Err = with(c.c.Err, i, x)
			c.check(t, "a long error", nil)
			for _, a := range []api.Interval{{Hi: x}, {Lo: dyadic.Neg(x)}, {Lo: x, Hi: x}, {Lo: dyadic.Neg(x), Hi: x}} {
				c.c.Range = with(c.c.Range, i, a)
				c.check(t, "a long range", nil)
				checkVerify(t, sheetOf(c.d, c.c))
			}
		}
	}
}

// Any ints are scales for Check.
func TestScalesAreNotChecked(t *testing.T) {
	for i := range good().d.Blocks {
		for _, f := range []int{-1, 31, math.MinInt, math.MaxInt} {
			c := good()
			c.c.Frac[i] = f
			c.check(t, "a scale", nil)
		}
	}
}

func TestEmptyCertificates(t *testing.T) {
	for _, d := range []api.Diagram{{}, {Inputs: []api.Port{{Hi: 1}}}} {
		for _, c := range []api.Cert{{}, {Frac: []int{}, Range: []api.Interval{}, Err: []api.Dyadic{}}} {
			call{d, c}.check(t, "no blocks", nil)
			checkAccepted(t, d, c)
		}
		call{d, good().c}.check(t, "too much", api.ErrShape)
	}
}

func TestMakeRefuses(t *testing.T) {
	refuse := func(d api.Diagram, rounds int, want error) {
		t.Helper()
		if c, is, err := Make(d, rounds); is || err != want || !sameCert(c, api.Cert{}) {
			t.Errorf("Make(%v, %d) = %v, %v, %v, not %v", d, rounds, c, is, err, want)
		}
	}
	unbounded := filter()
	unbounded.Blocks[1].Value.Exp = 0
	for _, rounds := range []int{math.MinInt, -1 << 32, -1, 0, 17, 18, 1 << 32, 1<<32 + 1, math.MaxInt} {
		for _, d := range []api.Diagram{{}, filter(), unbounded} {
			refuse(d, rounds, api.ErrRange)
		}
	}
	for _, f := range diagramFaults() {
		for _, rounds := range []int{1, 16, 0, 17, -1} {
			refuse(f.in(good()).d, rounds, f.want)
		}
	}
	for rounds := 1; rounds <= 16; rounds++ {
		refuse(unbounded, rounds, nil)
	}
}

// The slowest diagrams known: a ring whose invariants change in many rounds, and products whose ranges are as long as possible.
func TestMakeEnds(t *testing.T) {
	ring := api.Diagram{Inputs: []api.Port{{Lo: -1, Hi: 1, Frac: 30}}, Blocks: []api.Block{
		{Kind: api.BlockInput, Args: []int{0}},
		{Kind: api.BlockGain, Args: []int{63}, Value: api.Scalar{Num: -2}},
		{Kind: api.BlockClip, Args: []int{1}, Value: api.Scalar{Num: -1 << 24}, Upper: api.Scalar{Num: 1 << 24}},
		{Kind: api.BlockAdd, Args: []int{0, 2}},
	}}
	for i := 4; i < api.MaxBlocks; i++ {
		ring.Blocks = append(ring.Blocks, api.Block{Kind: api.BlockDelay, Args: []int{i - 1}})
	}
	products := api.Diagram{Inputs: []api.Port{{Lo: -1<<31 + 1, Hi: 1<<31 - 1, Frac: 30}}, Blocks: []api.Block{{Kind: api.BlockInput, Args: []int{0}}}}
	for i := 1; i < api.MaxBlocks; i += 2 {
		products.Blocks = append(products.Blocks,
			api.Block{Kind: api.BlockMul, Args: []int{0, max(0, i-2)}},
			api.Block{Kind: api.BlockDelay, Args: []int{i}})
	}
	products.Blocks = products.Blocks[:api.MaxBlocks]
	for _, d := range []api.Diagram{ring, products} {
		for _, rounds := range []int{1, 16} {
			checkMake(t, d, rounds)
		}
	}
}

// Rule 3 of the document: arguments stay as they are.
func TestArgumentsStay(t *testing.T) {
	r := rand.New(rand.NewSource(20))
	for _, d := range diagrams(r, 20, 6) {
		before := copiedDiagram(d)
		c, is, err := Make(d, 1+r.Intn(16))
		if !is {
			c = sheet{d, make([]int, len(d.Blocks)), slices.Repeat([]span{hullOf(scaled(-9, 0), scaled(7, -3))}, len(d.Blocks)), slices.Repeat([]*big.Rat{scaled(3, -1)}, len(d.Blocks))}.cert()
		}
		certBefore := copiedCert(c)
		Check(d, c)
		Verify(d, c)
		if !sameDiagram(d, before) || !sameCert(c, certBefore) || err != nil {
			t.Fatalf("%v, %v became %v, %v", before, certBefore, d, c)
		}
	}
}

// numbersOf returns all numbers of a certificate.
func numbersOf(c api.Cert) []api.Dyadic {
	var list []api.Dyadic
	for i, a := range c.Range {
		list = append(list, a.Lo, a.Hi, c.Err[i])
	}
	return list
}

// checkNumbers overwrites each number, also behind its words, and looks whether another one changes.
func checkNumbers(t *testing.T, numbers []api.Dyadic) {
	t.Helper()
	for i, x := range numbers {
		var before []api.Dyadic
		for _, y := range numbers {
			before = append(before, copiedNumber(y))
		}
		words := x.Words[:cap(x.Words)]
		for j := range words {
			words[j] ^= math.MaxUint32
		}
		for j, y := range numbers {
			if j != i && !sameNumber(y, before[j]) {
				t.Fatalf("two numbers share memory: %v became %v", before[j], y)
			}
		}
	}
}

// Rule 3 of the document, and rule 7 of the language: results are new memory.
func TestResultsAreNewMemory(t *testing.T) {
	r := rand.New(rand.NewSource(21))
	seen := 0
	for _, d := range diagrams(r, 20, 9) {
		before := copiedDiagram(d)
		first, is, err := Make(d, 2)
		second, _, _ := Make(d, 2)
		if !is || err != nil || len(d.Blocks) == 0 {
			continue
		}
		seen++
		if !sameCert(first, second) {
			t.Fatalf("%v and %v", first, second)
		}
		kept := copiedCert(second)
		checkNumbers(t, append(numbersOf(first), numbersOf(second)...))
		clear(first.Frac[:cap(first.Frac)])
		for i := range first.Range[:cap(first.Range)] {
			first.Range[:cap(first.Range)][i] = interval.Ints(77, 78)
		}
		for i := range first.Err[:cap(first.Err)] {
			first.Err[:cap(first.Err)][i] = dyadic.Of(79)
		}
		third, _, _ := Make(d, 2)
		if !sameCert(third, kept) || !slices.Equal(second.Frac, kept.Frac) || !sameDiagram(d, before) {
			t.Fatalf("a result depends on an earlier one: %v, not %v", third, kept)
		}
	}
	if seen < 40 {
		t.Errorf("only %d diagrams have results", seen)
	}
}

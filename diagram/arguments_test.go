package diagram

import (
	"math"
	"math/rand"
	"slices"
	"testing"

	"commutator/api"
)

// P10.1 for diagrams that are refused, and for those at the ends of the ranges.

// refuseAll checks that all functions return an error and zero values.
func refuseAll(t *testing.T, d api.Diagram, want error) {
	t.Helper()
	refuse := func(name string, zero bool, err error) {
		t.Helper()
		if !zero || err != want {
			t.Fatalf("%s(%v): %v, not %v", name, d, err, want)
		}
	}
	refuse("Check", true, Check(d))
	list, err := Order(d)
	refuse("Order", len(list) == 0, err)
	list, err = Delays(d)
	refuse("Delays", len(list) == 0, err)
	for _, i := range []int{math.MinInt, -1, 0, len(d.Blocks), math.MaxInt} {
		list, err = Uses(d, i)
		refuse("Uses", len(list) == 0, err)
	}
	is, err := Affine(d)
	refuse("Affine", !is, err)
	pruned, list, err := Prune(d)
	refuse("Prune", same(pruned, api.Diagram{}) && len(list) == 0, err)
}

type fault struct {
	name string
	make func(d *api.Diagram)
	want error
}

// faults are things that are wrong with the diagram every, in the order in which they are found.
func faults() []fault {
	list := []fault{
		{"17 inputs", func(d *api.Diagram) { d.Inputs = make([]api.Port, 17) }, api.ErrLarge},
		{"65 blocks", func(d *api.Diagram) { d.Blocks = append(d.Blocks, make([]api.Block, 65)...)[:65] }, api.ErrLarge},
		{"17 outputs", func(d *api.Diagram) { d.Outputs = make([]int, 17) }, api.ErrLarge},
		{"1000 blocks", func(d *api.Diagram) { d.Blocks = make([]api.Block, 1000) }, api.ErrLarge},
	}
	for i := range every().Inputs {
		list = append(list, portFaults(i)...)
	}
	for i := range every().Blocks {
		list = append(list, blockFaults(i)...)
	}
	for i := range every().Outputs {
		for _, block := range []int{math.MinInt, -1, 14, 15, 1 << 32, math.MaxInt} {
			list = append(list, fault{"output", func(d *api.Diagram) { d.Outputs[i] = block }, api.ErrIndex})
		}
	}
	return append(list,
		fault{"a circle of one block", func(d *api.Diagram) { d.Blocks[9].Args[1] = 9 }, api.ErrCycle},
		fault{"a circle of many blocks", func(d *api.Diagram) { d.Blocks[4].Args[1] = 11 }, api.ErrCycle},
		fault{"a circle past a delay", func(d *api.Diagram) { d.Blocks[3].Args[1] = 13 }, api.ErrCycle},
	)
}

func portFaults(i int) []fault {
	var list []fault
	for _, p := range []api.Port{
		{Lo: -1<<31 - 1},
		{Lo: math.MinInt, Hi: math.MaxInt},
		{Hi: 1 << 31},
		{Lo: 1 << 31, Hi: 1 << 31},
		{Lo: 1, Hi: 0},
		{Lo: 0, Hi: -1},
		{Lo: 1<<31 - 1, Hi: -1 << 31},
		{Lo: math.MinInt},
		{Hi: math.MaxInt},
		{Frac: -1},
		{Frac: 31},
		{Frac: math.MinInt},
		{Frac: math.MaxInt},
	} {
		list = append(list, fault{"input", func(d *api.Diagram) { d.Inputs[i] = p }, api.ErrRange})
	}
	return list
}

// blockFaults are things that are wrong with block i of the diagram every.
func blockFaults(i int) []fault {
	var list []fault
	add := func(name string, want error, change func(b *api.Block)) {
		list = append(list, fault{name, func(d *api.Diagram) { change(&d.Blocks[i]) }, want})
	}
	for _, kind := range []int{math.MinInt, -1, 12, 13, 1 << 32, math.MaxInt} {
		add("kind", api.ErrType, func(b *api.Block) { b.Kind = kind })
	}
	kind := every().Blocks[i].Kind
	for n := range 5 {
		if n != argsOf[kind] {
			add("number of arguments", api.ErrShape, func(b *api.Block) { b.Args = make([]int, n) })
		}
	}
	most := len(every().Blocks)
	if kind == api.BlockInput {
		most = len(every().Inputs)
	}
	for place := range argsOf[kind] {
		for _, arg := range []int{math.MinInt, -1, most, most + 1, 1 << 32, math.MaxInt} {
			add("argument", api.ErrIndex, func(b *api.Block) { b.Args[place] = arg })
		}
	}
	value := func(b *api.Block) *api.Scalar { return &b.Value }
	upper := func(b *api.Block) *api.Scalar { return &b.Upper }
	clips := kind == api.BlockClip
	used := clips || kind == api.BlockConst || kind == api.BlockDelay || kind == api.BlockGain
	for _, part := range []struct {
		of   func(b *api.Block) *api.Scalar
		used bool
	}{{value, used}, {upper, clips}} {
		for _, s := range wrongScalars(part.used) {
			want := api.ErrRange
			if !part.used {
				want = api.ErrForm
			}
			add("scalar", want, func(b *api.Block) { *part.of(b) = s })
		}
	}
	for _, s := range [][2]api.Scalar{{{Num: 1}, {}}, {{}, {Num: -1}}, {{Num: 1}, {Num: 3, Exp: -2}}, {{Num: 1, Exp: -62}, {Num: -1, Exp: -62}}} {
		if clips {
			add("order", api.ErrOrder, func(b *api.Block) { b.Value, b.Upper = s[0], s[1] })
		}
	}
	return list
}

// wrongScalars are scalars of which a block must have none.
func wrongScalars(used bool) []api.Scalar {
	if !used {
		return []api.Scalar{{Num: 1}, {Num: -1}, {Exp: 1}, {Exp: -1}, {Num: 1, Exp: 1}, {Num: 1, Exp: -1}, {Num: math.MinInt, Exp: math.MaxInt}, {Num: 1 << 32}, {Exp: 1 << 32}}
	}
	var list []api.Scalar
	for _, num := range []int{math.MinInt, -1 << 32, -1<<31 - 1, -1 << 31, 1 << 31, 1<<31 + 1, 1 << 32, 1<<32 + 1, math.MaxInt} {
		list = append(list, api.Scalar{Num: num}, api.Scalar{Num: num, Exp: -63})
	}
	for _, exp := range []int{math.MinInt, -1 << 32, -64, -63, 31, 32, 1 << 32, math.MaxInt} {
		list = append(list, api.Scalar{Exp: exp}, api.Scalar{Num: 1, Exp: exp})
	}
	return list
}

func TestFaults(t *testing.T) {
	for _, f := range faults() {
		d := copied(every())
		f.make(&d)
		refuseAll(t, d, f.want)
	}
}

// Rule 1 of the document: of two faults, the one that is to be found first is found.
func TestFirstFaultIsFound(t *testing.T) {
	list := faults()
	for i, first := range list {
		for _, second := range list[i+1:] {
			d := copied(every())
			// The first fault is made last, as it may be at the same place.
			second.make(&d)
			first.make(&d)
			if err := Check(d); err != first.want {
				t.Fatalf("%s before %s: Check(%v) = %v, not %v", first.name, second.name, d, err, first.want)
			}
		}
	}
}

func TestScalarsAtTheEndsOfTheirRange(t *testing.T) {
	for _, s := range []api.Scalar{
		{Num: 1<<31 - 1, Exp: 30}, {Num: 1 - 1<<31, Exp: 30}, {Num: 1<<31 - 1, Exp: -62}, {Num: 1 - 1<<31, Exp: -62}, {Exp: 30}, {Exp: -62}, {},
	} {
		for _, i := range []int{1, 2, 6} {
			d := copied(every())
			d.Blocks[i].Value = s
			checkAll(t, d)
		}
		d := copied(every())
		d.Blocks[11].Value, d.Blocks[11].Upper = s, s
		checkAll(t, d)
	}
}

// scalars are scalars of all sizes, among them equal ones in different forms.
func scalars() []api.Scalar {
	list := []api.Scalar{{}, {Exp: 30}, {Exp: -62}, {Num: 1, Exp: -62}, {Num: 1<<31 - 1, Exp: 30}}
	r := rand.New(rand.NewSource(2))
	for range 40 {
		s := anyScalar(r)
		list = append(list, s)
		for s.Num < 1<<30 && s.Num > -1<<30 && s.Exp > -62 && s.Num != 0 {
			s = api.Scalar{Num: 2 * s.Num, Exp: s.Exp - 1}
		}
		list = append(list, s)
		if s.Num < 1<<31-1 {
			list = append(list, api.Scalar{Num: s.Num + 1, Exp: s.Exp})
		}
	}
	for _, s := range slices.Clone(list) {
		list = append(list, api.Scalar{Num: -s.Num, Exp: s.Exp})
	}
	return list
}

func TestOrderOfClips(t *testing.T) {
	list := scalars()
	for _, lower := range list {
		for _, upper := range list {
			d := api.Diagram{Blocks: []api.Block{{Kind: api.BlockConst}, {Kind: api.BlockClip, Args: []int{0}, Value: lower, Upper: upper}}}
			var want error
			if numberOf(lower).Cmp(numberOf(upper)) > 0 {
				want = api.ErrOrder
			}
			if err := Check(d); err != want {
				t.Fatalf("clip to %v..%v: %v, not %v", lower, upper, err, want)
			}
		}
	}
}

func TestPortsAtTheEndsOfTheirRange(t *testing.T) {
	for _, p := range []api.Port{
		{Lo: -1 << 31, Hi: 1<<31 - 1, Frac: 30}, {Lo: -1 << 31, Hi: -1 << 31}, {Lo: 1<<31 - 1, Hi: 1<<31 - 1}, {}, {Frac: 30}, {Lo: 7, Hi: 7},
	} {
		d := copied(every())
		d.Inputs[1] = p
		checkAll(t, d)
	}
}

func TestGreatestDiagram(t *testing.T) {
	d := api.Diagram{Inputs: make([]api.Port, 16), Blocks: make([]api.Block, 64), Outputs: make([]int, 16)}
	for i := range d.Blocks {
		d.Blocks[i].Args = []int{i % 16}
	}
	for i := range d.Outputs {
		d.Outputs[i] = 63 - i
	}
	checkAll(t, d)
	refuseUses(t, d)
}

// refuseUses asks for blocks that do not exist.
func refuseUses(t *testing.T, d api.Diagram) {
	t.Helper()
	for _, i := range []int{math.MinInt, -1 << 32, -1, len(d.Blocks), len(d.Blocks) + 1, 1 << 32, math.MaxInt} {
		if list, err := Uses(d, i); len(list) != 0 || err != api.ErrIndex {
			t.Errorf("Uses(%v, %d) = %v, %v", d, i, list, err)
		}
	}
}

func TestBlocksThatDoNotExist(t *testing.T) {
	refuseUses(t, api.Diagram{})
	refuseUses(t, made())
	refuseUses(t, every())
}

// Rule 3 of the document: arguments stay as they are.
func TestArgumentsStay(t *testing.T) {
	list := diagrams(15)
	for _, f := range faults() {
		d := copied(every())
		f.make(&d)
		list = append(list, d)
	}
	for _, d := range list {
		before := copied(d)
		Check(d)
		Order(d)
		Delays(d)
		Uses(d, 0)
		Affine(d)
		Prune(d)
		if !same(d, before) {
			t.Fatalf("%v became %v", before, d)
		}
	}
}

// overwrite changes everything in d.
func overwrite(d api.Diagram) {
	for i := range d.Inputs {
		d.Inputs[i] = api.Port{Lo: 77}
	}
	for i := range d.Blocks {
		for j := range d.Blocks[i].Args {
			d.Blocks[i].Args[j] = 77
		}
		d.Blocks[i].Kind = 77
	}
	for i := range d.Outputs {
		d.Outputs[i] = 77
	}
}

// Rule 3 of the document: results are new memory.
func TestResultsAreNewMemory(t *testing.T) {
	for _, d := range accepted(16) {
		before := copied(d)
		pruned, numbers, err := Prune(d)
		if err != nil {
			t.Fatalf("Prune(%v): %v", d, err)
		}
		wanted := copied(pruned)
		for i := range numbers {
			numbers[i] = 77
		}
		if !same(pruned, wanted) {
			t.Fatalf("Prune(%v): the diagram and the numbers share memory", d)
		}
		overwrite(pruned)
		if !same(d, before) {
			t.Fatalf("%v became %v", before, d)
		}
	}
}

// No two lists of a pruned diagram share memory, not even behind their ends, and also if those of the argument do.
func TestListsShareNoMemory(t *testing.T) {
	shared := []int{0, 1}
	d := api.Diagram{Inputs: []api.Port{{}, {}}, Outputs: []int{2, 3}, Blocks: []api.Block{
		{Kind: api.BlockInput, Args: shared[:1]},
		{Kind: api.BlockInput, Args: shared[:1]},
		{Kind: api.BlockAdd, Args: shared},
		{Kind: api.BlockAdd, Args: shared},
	}}
	pruned, _, err := Prune(d)
	if err != nil || !same(pruned, d) {
		t.Fatalf("Prune(%v) = %v, %v", d, pruned, err)
	}
	lists := [][]int{pruned.Outputs}
	for _, b := range pruned.Blocks {
		lists = append(lists, b.Args)
	}
	for i, list := range lists {
		list = list[:cap(list)]
		for j := range list {
			list[j] = 100 + i
		}
	}
	for i, list := range lists {
		for _, x := range list {
			if x != 100+i {
				t.Errorf("list %d shares memory: %v", i, list)
			}
		}
	}
	if !slices.Equal(shared, []int{0, 1}) {
		t.Errorf("the argument became %v", shared)
	}
}

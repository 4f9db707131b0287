package code

import (
	"math"
	"math/rand"
	"slices"
	"strconv"
	"testing"

	"commutator/api"
)

// P14.1 for arguments that are refused, for the ends of the ranges, for the order of errors, and for the memory of arguments and results.

// call has the arguments of all functions.
type call struct {
	p         api.Program
	cells, in []int
}

func good() call {
	return call{sample(), []int{7, -8, 0, 1<<31 - 1, -1 << 31}, []int{-9, 1<<31 - 1}}
}

// check looks whether Check, Start and Writes return one error, and Run another one.
func (c call) check(t *testing.T, name string, want, wantRun error) {
	t.Helper()
	if err := Check(c.p); err != want {
		t.Errorf("%s: Check = %v, not %v", name, err, want)
	}
	for _, list := range []func(api.Program) ([]int, error){Start, Writes} {
		if cells, err := list(c.p); err != want || err != nil && len(cells) > 0 {
			t.Errorf("%s: Start or Writes = %v, %v, not %v", name, cells, err, want)
		}
	}
	if run, err := Run(c.p, c.cells, c.in); err != wantRun || err != nil && !sameRun(run, api.CodeRun{}) {
		t.Errorf("%s: Run = %v, %v, not %v", name, run, err, wantRun)
	}
}

type fault struct {
	name string
	make func(c *call)
	want error
	// Data are wrong for Run only.
	data bool
}

func (f fault) in(c call) call {
	c.p = copied(c.p)
	f.make(&c)
	return c
}

func (f fault) check(t *testing.T, name string, c call) {
	t.Helper()
	want := f.want
	if f.data {
		want = nil
	}
	c.check(t, name, want, f.want)
}

// wrongWords are no 32-bit ints.
func wrongWords() []int {
	return []int{1 << 31, -1<<31 - 1, 1 << 32, -1 << 32, 1<<32 + 1, math.MaxInt, math.MinInt}
}

// wrongIndices are no indices of n things.
func wrongIndices(n int) []int {
	return []int{n, n + 1, -1, 1 << 32, math.MaxInt, math.MinInt}
}

func wrongShifts() []int {
	return []int{-63, 31, -64, 64, -1 << 32, 1 << 32, math.MaxInt, math.MinInt}
}

// with returns a list that may be too short for it with x as element i.
func with[T any](list []T, i int, x T) []T {
	list = slices.Clone(list)
	if i < len(list) {
		list[i] = x
	}
	return list
}

func largeFaults() []fault {
	var list []fault
	for _, more := range []int{1, 2, 1000} {
		list = append(list,
			fault{"many ports", func(c *call) { c.p.Ports = make([]api.Port, api.MaxPorts+more) }, api.ErrLarge, false},
			fault{"many cells", func(c *call) { c.p.Init = make([]int, api.MaxCells+more) }, api.ErrLarge, false},
			fault{"many instructions", func(c *call) { c.p.Code = make([]api.Instr, api.MaxInstrs+more) }, api.ErrLarge, false},
			fault{"many outputs", func(c *call) { c.p.Outputs = make([]int, api.MaxOuts+more) }, api.ErrLarge, false},
		)
	}
	return list
}

func portFaults() []fault {
	var list []fault
	for i := range good().p.Ports {
		for _, wrong := range []api.Port{
			{Lo: 1}, {Hi: -1}, {Lo: 9, Hi: 8},
			{Lo: -1<<31 - 1}, {Lo: math.MinInt, Hi: 5}, {Hi: 1 << 31}, {Hi: math.MaxInt},
			{Lo: 1 << 31, Hi: 1 << 31}, {Lo: -1 << 32, Hi: -1 << 32}, {Lo: math.MinInt, Hi: math.MaxInt},
			{Frac: -1}, {Frac: 31}, {Frac: math.MinInt}, {Frac: math.MaxInt},
		} {
			list = append(list, fault{"port " + strconv.Itoa(i), func(c *call) { c.p.Ports = with(c.p.Ports, i, wrong) }, api.ErrRange, false})
		}
	}
	return list
}

func cellFaults() []fault {
	var list []fault
	for i := range good().p.Init {
		for _, x := range wrongWords() {
			list = append(list, fault{"Init " + strconv.Itoa(i), func(c *call) { c.p.Init = with(c.p.Init, i, x) }, api.ErrRange, false})
		}
	}
	return list
}

// instrFaults are the things that are wrong with the instructions, in the order in which they are found.
func instrFaults() []fault {
	var list []fault
	p := good().p
	for i, x := range p.Code {
		add := func(field string, wrong []int, want error) {
			for _, value := range wrong {
				list = append(list, fault{field + " of " + strconv.Itoa(i), func(c *call) {
					*fieldOf(&c.p.Code[i], field) = value
				}, want, false})
			}
		}
		for _, op := range []int{-1, 11, 12, 64, 1 << 32, math.MaxInt, math.MinInt} {
			list = append(list, fault{"Op of " + strconv.Itoa(i), func(c *call) { c.p.Code[i].Op = op }, api.ErrType, false})
		}
		add("Dst", wrongIndices(len(p.Init)), api.ErrIndex)
		for _, field := range []string{"A", "B"} {
			switch {
			case x.Op == api.OpIn && field == "A":
				add(field, wrongIndices(len(p.Ports)), api.ErrIndex)
			case uses(x.Op, field):
				add(field, wrongIndices(len(p.Init)), api.ErrIndex)
			}
		}
		for _, field := range []string{"Sa", "Sb"} {
			if uses(x.Op, field) {
				add(field, wrongShifts(), api.ErrRange)
			}
		}
		if uses(x.Op, "Imm") {
			add("Imm", wrongWords(), api.ErrRange)
		}
		for _, field := range []string{"A", "B", "Sa", "Sb", "Imm"} {
			if !uses(x.Op, field) {
				add(field, []int{1, -1, 5, 1 << 32, math.MaxInt, math.MinInt}, api.ErrForm)
			}
		}
	}
	return list
}

func outputFaults() []fault {
	var list []fault
	for i := range good().p.Outputs {
		for _, x := range wrongIndices(len(good().p.Init)) {
			list = append(list, fault{"output " + strconv.Itoa(i), func(c *call) { c.p.Outputs = with(c.p.Outputs, i, x) }, api.ErrIndex, false})
		}
	}
	return list
}

// dataFaults are the things that are wrong with cells and inputs, in the order in which they are found.
func dataFaults() []fault {
	var list []fault
	add := func(name string, want error, change func(c *call)) {
		list = append(list, fault{name, change, want, true})
	}
	for _, n := range []int{0, 1, 4, 6, 192, 1000} {
		add("number of cells", api.ErrShape, func(c *call) { c.cells = make([]int, n) })
	}
	for i := range good().cells {
		for _, x := range wrongWords() {
			add("cell", api.ErrRange, func(c *call) { c.cells = with(c.cells, i, x) })
		}
	}
	for _, n := range []int{0, 1, 3, 16, 1000} {
		add("number of inputs", api.ErrShape, func(c *call) { c.in = make([]int, n) })
	}
	for i, wrong := range [][]int{{-10, 10}, {2, 1 << 31}} {
		for _, x := range append(wrong, 1<<32, -1<<32, 1<<32+5, math.MaxInt, math.MinInt) {
			add("input", api.ErrRange, func(c *call) { c.in = with(c.in, i, x) })
		}
	}
	return list
}

// faults are all of them in the order in which they are found.
func faults() []fault {
	return slices.Concat(largeFaults(), portFaults(), cellFaults(), instrFaults(), outputFaults(), dataFaults())
}

func TestGoodCallIsAccepted(t *testing.T) {
	c := good()
	c.check(t, "a good call", nil, nil)
	checkOthers(t, c.p)
	checkRun(t, c.p, c.cells, c.in)
}

func TestFaults(t *testing.T) {
	for _, f := range faults() {
		f.check(t, f.name, f.in(good()))
	}
}

// Rule 1 of the document: of two faults, the one that is to be found first is found.
func TestFirstFaultIsFound(t *testing.T) {
	list := faults()
	for i, f := range list {
		for _, g := range list[i+1:] {
			if f.want == g.want {
				continue
			}
			// The first fault is made last, as it may be at the same place.
			f.check(t, f.name+" before "+g.name, f.in(g.in(good())))
		}
	}
}

// The least and the greatest number of each range are accepted, for every operation.
func TestEndsOfRanges(t *testing.T) {
	ends := map[string][]int{"Dst": {0, 4}, "A": {0, 4}, "B": {0, 4}, "Sa": {-62, 30}, "Sb": {-62, 30}, "Imm": {-1 << 31, 1<<31 - 1}}
	for i, x := range sample().Code {
		for _, field := range append(usedBy(x.Op), "Dst") {
			for _, value := range ends[field] {
				if x.Op == api.OpIn && field == "A" {
					value = min(value, 1)
				}
				c := good()
				*fieldOf(&c.p.Code[i], field) = value
				c.check(t, field, nil, nil)
				checkRun(t, c.p, c.cells, c.in)
			}
		}
	}
	for _, p := range []api.Port{{}, {Lo: -1 << 31, Hi: -1 << 31}, {Lo: 1<<31 - 1, Hi: 1<<31 - 1, Frac: 30}, {Lo: -1 << 31, Hi: 1<<31 - 1, Frac: 30}} {
		c := good()
		c.p.Ports[0] = p
		for _, x := range []int{p.Lo, p.Hi} {
			c.in[0] = x
			c.check(t, "port", nil, nil)
			checkRun(t, c.p, c.cells, c.in)
		}
		for _, x := range []int{p.Lo - 1, p.Hi + 1} {
			c.in[0] = x
			c.check(t, "input", nil, api.ErrRange)
		}
	}
}

// longest returns a program with as much of everything as is permitted; it adds the last input to the last cell again and again.
func longest() api.Program {
	p := api.Program{
		Ports:   slices.Repeat([]api.Port{{Lo: -1, Hi: 1}}, api.MaxPorts),
		Init:    make([]int, api.MaxCells),
		Code:    []api.Instr{{Op: api.OpIn, Dst: 190, A: 15}},
		Outputs: slices.Repeat([]int{191}, api.MaxOuts),
	}
	for len(p.Code) < api.MaxInstrs {
		p.Code = append(p.Code, api.Instr{Op: api.OpAdd, Dst: 191, A: 190, B: 191})
	}
	return p
}

func TestLongestProgram(t *testing.T) {
	p := longest()
	checkOthers(t, p)
	in := make([]int, api.MaxPorts)
	in[15] = -1
	if run := checkRun(t, p, p.Init, in); !slices.Equal(run.Outputs, slices.Repeat([]int{-255}, 16)) || run.Overflow {
		t.Errorf("the longest program: %v", run)
	}
}

// Without cells or ports nothing can be written or read.
func TestProgramsWithoutCellsOrPorts(t *testing.T) {
	for op := range operations {
		p := api.Program{Ports: []api.Port{{}}, Code: []api.Instr{{Op: op}}}
		call{p, nil, []int{0}}.check(t, "no cells", api.ErrIndex, api.ErrIndex)
		var want error
		if op == api.OpIn {
			want = api.ErrIndex
		}
		p = api.Program{Init: []int{0}, Code: []api.Instr{{Op: op}}}
		call{p, []int{0}, nil}.check(t, "no ports", want, want)
	}
	call{api.Program{Outputs: []int{0}}, nil, nil}.check(t, "no cells", api.ErrIndex, api.ErrIndex)
}

// An input is no cell: there may be more inputs than cells, or fewer.
func TestInputsAreNoCells(t *testing.T) {
	p := api.Program{Ports: make([]api.Port, 2), Init: []int{0}, Code: []api.Instr{{Op: api.OpIn, A: 1}}}
	call{p, []int{0}, []int{0, 0}}.check(t, "more inputs", nil, nil)
	p.Code[0].Op = api.OpMove
	call{p, []int{0}, []int{0, 0}}.check(t, "more inputs", api.ErrIndex, api.ErrIndex)
	p = api.Program{Ports: make([]api.Port, 1), Init: []int{0, 0}, Code: []api.Instr{{Op: api.OpIn, A: 1}}}
	call{p, []int{0, 0}, []int{0}}.check(t, "fewer inputs", api.ErrIndex, api.ErrIndex)
	p.Code[0].Op = api.OpMove
	call{p, []int{0, 0}, []int{0}}.check(t, "fewer inputs", nil, nil)
}

// Rule 3 of the document: arguments stay as they are.
func TestArgumentsStay(t *testing.T) {
	r := rand.New(rand.NewSource(20))
	for _, p := range programs(21)[:500] {
		before, cells, in := copied(p), anyWords(r, len(p.Init)), anyIn(r, p.Ports)
		cellsBefore, inBefore := slices.Clone(cells), slices.Clone(in)
		Check(p)
		Start(p)
		Writes(p)
		Run(p, cells, in)
		if !sameProgram(p, before) || !slices.Equal(cells, cellsBefore) || !slices.Equal(in, inBefore) {
			t.Fatalf("%v, %v, %v became %v, %v, %v", before, cellsBefore, inBefore, p, cells, in)
		}
	}
}

// overwrite changes a list, also behind its end.
func overwrite(list []int) {
	list = list[:cap(list)]
	for i := range list {
		list[i] = 77
	}
}

// Rule 3 of the document, and rule 7 of the language: results are new memory.
func TestResultsAreNewMemory(t *testing.T) {
	c := good()
	for _, list := range []func(api.Program) ([]int, error){Start, Writes} {
		first, _ := list(c.p)
		before := slices.Clone(first)
		overwrite(first)
		if second, err := list(c.p); !slices.Equal(second, before) || err != nil {
			t.Errorf("a result shares memory: %v, %v, not %v", second, err, before)
		}
	}
	first, want := checkRun(t, c.p, c.cells, c.in), runOf(c.p, c.cells, c.in)
	overwrite(first.Outputs)
	if !slices.Equal(first.Cells, want.Cells) {
		t.Errorf("cells and outputs share memory: %v, not %v", first.Cells, want.Cells)
	}
	overwrite(first.Cells)
	checkRun(t, c.p, c.cells, c.in)
	if kept := good(); !sameProgram(c.p, kept.p) || !slices.Equal(c.cells, kept.cells) || !slices.Equal(c.in, kept.in) {
		t.Errorf("a result shares memory with arguments: %v", c)
	}
	second := checkRun(t, c.p, c.cells, c.in)
	overwrite(second.Cells)
	if !slices.Equal(second.Outputs, want.Outputs) {
		t.Errorf("cells and outputs share memory: %v, not %v", second.Outputs, want.Outputs)
	}
}

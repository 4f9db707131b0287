package code

import (
	"math/rand"
	"slices"
	"testing"

	"commutator/api"
)

// P14.1: every function returns what is specified.

// checkRun compares a run with the chapter's words and returns it.
func checkRun(t *testing.T, p api.Program, cells, in []int) api.CodeRun {
	t.Helper()
	want := runOf(p, cells, in)
	run, err := Run(p, cells, in)
	if !sameRun(run, want) || err != nil {
		t.Fatalf("Run(%v, %v, %v) = %v, %v, not %v", p, cells, in, run, err, want)
	}
	return run
}

// checkOthers compares the other functions with the chapter's words.
func checkOthers(t *testing.T, p api.Program) {
	t.Helper()
	if err := Check(p); err != nil {
		t.Fatalf("Check(%v) = %v", p, err)
	}
	if cells, err := Start(p); !slices.Equal(cells, p.Init) || err != nil {
		t.Fatalf("Start(%v) = %v, %v", p, cells, err)
	}
	want := writesOf(p)
	if cells, err := Writes(p); !slices.Equal(cells, want) || err != nil {
		t.Fatalf("Writes(%v) = %v, %v, not %v", p, cells, err, want)
	}
}

// single returns a program of one instruction, which writes cell 2, and whose A and B are cells 0 and 1 or its only input.
func single(x api.Instr) api.Program {
	x.Dst = 2
	if uses(x.Op, "B") {
		x.B = 1
	}
	return api.Program{
		Ports:   []api.Port{{Lo: -1 << 31, Hi: 1<<31 - 1}},
		Init:    []int{0, 0, 0},
		Code:    []api.Instr{x},
		Outputs: []int{2},
	}
}

// one runs one instruction with the contents a and b of cells A and B.
func one(t *testing.T, x api.Instr, a, b int) (int, bool) {
	t.Helper()
	run := checkRun(t, single(x), []int{a, b, 77}, []int{a})
	if !slices.Equal(run.Cells[:2], []int{a, b}) || len(run.Outputs) != 1 || run.Outputs[0] != run.Cells[2] {
		t.Fatalf("%v of %d and %d: %v", x, a, b, run)
	}
	return run.Cells[2], run.Overflow
}

func TestExamples(t *testing.T) {
	for _, c := range []struct {
		x    api.Instr
		want int
		over bool
	}{
		{api.Instr{Op: api.OpAdd, Sa: 1, Sb: -1}, 8, false},
		{api.Instr{Op: api.OpMul, Sa: -2}, -4, false},
		{api.Instr{Op: api.OpGain, Imm: 1 << 30}, 1<<31 - 1, true},
	} {
		if y, over := one(t, c.x, 5, -3); y != c.want || over != c.over {
			t.Errorf("%v: %d, %v, not %d, %v", c.x, y, over, c.want, c.over)
		}
	}
}

// The results of every operation, by hand.
func TestOperations(t *testing.T) {
	const least, most = -1 << 31, 1<<31 - 1
	for _, c := range []struct {
		op, a, b, sa, sb, imm, want int
		over                        bool
	}{
		{api.OpIn, 7, 0, 2, 0, 0, 28, false},
		{api.OpIn, -7, 0, -1, 0, 0, -4, false},
		{api.OpIn, least, 0, 1, 0, 0, least, true},
		{api.OpConst, 1, 2, 0, 0, 9, 9, false},
		{api.OpConst, 1, 2, 0, 0, least, least, false},
		{api.OpConst, 1, 2, 0, 0, most, most, false},
		{api.OpMove, 5, 1, 0, 0, 0, 5, false},
		{api.OpMove, 5, 0, -1, 0, 0, 2, false},
		{api.OpMove, -5, 0, -1, 0, 0, -3, false},
		{api.OpMove, 5, 0, -62, 0, 0, 0, false},
		{api.OpMove, -5, 0, -62, 0, 0, -1, false},
		{api.OpMove, 1, 0, 30, 0, 0, 1 << 30, false},
		{api.OpMove, 2, 0, 30, 0, 0, most, true},
		{api.OpMove, -2, 0, 30, 0, 0, least, false},
		{api.OpMove, -3, 0, 30, 0, 0, least, true},
		{api.OpAdd, most, 1, 0, 0, 0, most, true},
		{api.OpAdd, most, 0, 0, 0, 0, most, false},
		{api.OpAdd, least, -1, 0, 0, 0, least, true},
		{api.OpAdd, least, most, 0, 0, 0, -1, false},
		{api.OpAdd, most, -most, 30, 30, 0, 0, false},
		{api.OpAdd, 7, 7, -1, -2, 0, 4, false},
		{api.OpSub, 5, -3, 0, 0, 0, 8, false},
		{api.OpSub, least, 1, 0, 0, 0, least, true},
		{api.OpSub, 0, least, 0, 0, 0, most, true},
		{api.OpSub, most, most - 1, 30, 30, 0, 1 << 30, false},
		{api.OpSub, -7, -7, -1, -2, 0, -2, false},
		{api.OpNeg, -3, 0, -1, 0, 0, 2, false},
		{api.OpNeg, 3, 0, -1, 0, 0, -1, false},
		{api.OpNeg, least, 0, 0, 0, 0, most, true},
		{api.OpNeg, most, 0, 0, 0, 0, -most, false},
		{api.OpNeg, -1, 0, -62, 0, 0, 1, false},
		{api.OpGain, -3, 0, -1, 0, 7, -11, false},
		{api.OpGain, most, 0, 30, 0, most, most, true},
		{api.OpGain, most, 0, 30, 0, least, least, true},
		{api.OpGain, least, 0, -31, 0, most, -most, false},
		{api.OpGain, least, 0, -31, 0, least, most, true},
		{api.OpGain, least, 0, -62, 0, least, 1, false},
		{api.OpGain, 1, 0, 30, 0, 0, 0, false},
		{api.OpMul, 5, -3, 3, 0, 0, -120, false},
		{api.OpMul, least, least, 30, 0, 0, most, true},
		{api.OpMul, least, most, 30, 0, 0, least, true},
		{api.OpMul, least, least, -62, 0, 0, 1, false},
		{api.OpMul, least, most, -62, 0, 0, -1, false},
		{api.OpMul, 1 << 16, 1 << 16, -1, 0, 0, most, true},
		{api.OpMul, 1 << 16, 1 << 16, -2, 0, 0, 1 << 30, false},
		{api.OpMul, 1 << 17, 1 << 17, 30, 0, 0, most, true},
		{api.OpMin, 5, -3, 0, 1, 0, -6, false},
		{api.OpMin, 5, 3, -1, 0, 0, 2, false},
		{api.OpMin, most, 7, 30, 0, 0, 7, false},
		{api.OpMin, most, 2, 30, 30, 0, most, true},
		{api.OpMax, 5, -3, -3, 0, 0, 0, false},
		{api.OpMax, 5, 3, -1, 0, 0, 3, false},
		{api.OpMax, least, -7, 30, 0, 0, -7, false},
		{api.OpMax, least, -3, 1, 30, 0, least, true},
		{api.OpAbs, -3, 0, -1, 0, 0, 2, false},
		{api.OpAbs, 3, 0, -1, 0, 0, 1, false},
		{api.OpAbs, least, 0, 0, 0, 0, most, true},
		{api.OpAbs, least, 0, -1, 0, 0, 1 << 30, false},
		{api.OpAbs, -1, 0, 30, 0, 0, 1 << 30, false},
	} {
		x := api.Instr{Op: c.op, Sa: c.sa, Sb: c.sb, Imm: c.imm}
		if y, over := one(t, x, c.a, c.b); y != c.want || over != c.over {
			t.Errorf("%v of %d and %d: %d, %v, not %d, %v", x, c.a, c.b, y, over, c.want, c.over)
		}
	}
}

// corners are 32-bit ints with which results come close to their limits.
func corners() []int {
	return []int{-1 << 31, 1 - 1<<31, -1<<30 - 1, -1 << 30, -65537, -3, -2, -1, 0, 1, 2, 3, 46341, 1<<30 - 1, 1 << 30, 1<<31 - 2, 1<<31 - 1}
}

func TestEveryShift(t *testing.T) {
	kept, over := [operations]int{}, [operations]int{}
	for op := range operations {
		if uses(op, "Sb") || !uses(op, "Sa") {
			continue
		}
		for sa := -62; sa <= 30; sa++ {
			for _, a := range corners() {
				for _, other := range corners() {
					x, b := api.Instr{Op: op, Sa: sa}, other
					if uses(op, "Imm") {
						x.Imm, b = other, 0
					}
					if _, moved := one(t, x, a, b); moved {
						over[op]++
					} else {
						kept[op]++
					}
				}
			}
		}
		if kept[op] < 1000 || over[op] < 1000 {
			t.Errorf("operation %d: %d results are kept, %d overflow", op, kept[op], over[op])
		}
	}
}

func TestEveryPairOfShifts(t *testing.T) {
	shifts := []int{-62, -61, -33, -32, -31, -30, -2, -1, 0, 1, 2, 29, 30}
	for _, op := range []int{api.OpAdd, api.OpSub, api.OpMin, api.OpMax} {
		for _, sa := range shifts {
			for _, sb := range shifts {
				for _, a := range corners() {
					for _, b := range corners() {
						one(t, api.Instr{Op: op, Sa: sa, Sb: sb}, a, b)
					}
				}
			}
		}
	}
}

// An instruction may write a cell that it reads, and reads what those before it wrote.
func TestCellsAreReadBeforeTheyAreWritten(t *testing.T) {
	p := api.Program{Init: []int{3, 4}, Code: []api.Instr{
		{Op: api.OpAdd, Dst: 0, A: 0, B: 1},
		{Op: api.OpSub, Dst: 1, A: 0, B: 1},
		{Op: api.OpMul, Dst: 1, A: 1, B: 1, Sa: 1},
		{Op: api.OpNeg, Dst: 0, A: 0},
		{Op: api.OpMove, Dst: 0, A: 0, Sa: 1},
	}, Outputs: []int{1, 0, 1}}
	for tick, want := range [][]int{{18, -14}, {392, -8}} {
		run := checkRun(t, p, p.Init, nil)
		if !slices.Equal(run.Cells, []int{want[1], want[0]}) || !slices.Equal(run.Outputs, []int{want[0], want[1], want[0]}) || run.Overflow {
			t.Errorf("run %d: %v, not %v", tick, run, want)
		}
		p.Init = run.Cells
	}
}

// An overflow is reported, whatever the cell contains in the end, and only in the run in which it is.
func TestOverflowOfAnyInstruction(t *testing.T) {
	quiet := api.Instr{Op: api.OpConst, Dst: 1, Imm: 5}
	loud := api.Instr{Op: api.OpMove, Dst: 1, A: 0, Sa: 1}
	for i := range 5 {
		p := api.Program{Init: []int{1 << 29, 0}, Code: slices.Repeat([]api.Instr{quiet}, 5), Outputs: []int{1}}
		p.Code[i] = loud
		cells := p.Init
		for _, over := range []bool{false, true, false} {
			cells[0] = 1 << 29
			if over {
				cells[0] = 1 << 30
			}
			run := checkRun(t, p, cells, nil)
			if run.Overflow != over {
				t.Errorf("overflow in instruction %d: %v", i, run.Overflow)
			}
			cells = run.Cells
		}
	}
}

// Run begins with the cells that it is given, not with Init, and Frac changes nothing.
func TestCellsAreThoseGiven(t *testing.T) {
	for _, init := range []int{0, 7, -1 << 31, 1<<31 - 1} {
		for frac := 0; frac <= 30; frac++ {
			p := api.Program{
				Ports:   []api.Port{{Lo: -5, Hi: 5, Frac: frac}},
				Init:    []int{init, init},
				Code:    []api.Instr{{Op: api.OpIn, Dst: 1, A: 0, Sa: 1}},
				Outputs: []int{0, 1},
			}
			run, err := Run(p, []int{3, 4}, []int{-5})
			if want := (api.CodeRun{Cells: []int{3, -10}, Outputs: []int{3, -10}}); !sameRun(run, want) || err != nil {
				t.Errorf("%v: %v, %v", p, run, err)
			}
		}
	}
}

func TestEmptyPrograms(t *testing.T) {
	for _, p := range []api.Program{{}, {Ports: []api.Port{}, Init: []int{}, Code: []api.Instr{}, Outputs: []int{}}} {
		checkOthers(t, p)
		for _, none := range [][]int{nil, {}} {
			if run := checkRun(t, p, none, none); len(run.Cells) > 0 || len(run.Outputs) > 0 || run.Overflow {
				t.Errorf("%v: %v", p, run)
			}
		}
	}
	p := api.Program{Init: []int{3, 4}, Outputs: []int{1, 1, 0}}
	checkOthers(t, p)
	if run := checkRun(t, p, []int{8, 9}, nil); !slices.Equal(run.Outputs, []int{9, 9, 8}) {
		t.Errorf("%v: %v", p, run)
	}
}

func TestRandomPrograms(t *testing.T) {
	r := rand.New(rand.NewSource(1))
	kept, over, cut := 0, 0, 0
	for _, p := range programs(2) {
		checkOthers(t, p)
		cells := p.Init
		for range 4 {
			run := checkRun(t, p, cells, anyIn(r, p.Ports))
			cells = run.Cells
			switch {
			case run.Overflow:
				over++
			case len(p.Code) > 0:
				kept++
			}
		}
		if list, _ := Writes(p); len(list) < len(p.Init) && len(list) < len(p.Code) {
			cut++
		}
	}
	if kept < 1000 || over < 1000 || cut < 100 {
		t.Errorf("%d runs are kept, %d overflow, and %d programs write cells twice and others not", kept, over, cut)
	}
}

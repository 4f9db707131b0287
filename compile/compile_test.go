package compile

import (
	"math/rand"
	"slices"
	"testing"

	"commutator/api"
	"commutator/code"
)

// P15.1: both functions return what is specified, and programs are accepted by code.Check.

// checkCompile compares the program of accepted arguments with the chapter's words.
func checkCompile(t *testing.T, d api.Diagram, f []int) (api.Program, error) {
	t.Helper()
	want, wantErr := programOf(d, f)
	p, err := Compile(d, f)
	if !sameProgram(p, want) || err != wantErr {
		t.Fatalf("Compile(%v, %v) = %v, %v, not %v, %v", d, f, p, err, want, wantErr)
	}
	if err := code.Check(p); err != nil {
		t.Fatalf("Compile(%v, %v) = %v, which is refused: %v", d, f, p, err)
	}
	return p, err
}

func TestExample(t *testing.T) {
	p, err := checkCompile(t, filter(), []int{4, 4, 4, 4})
	want := api.Program{
		Ports: []api.Port{{Lo: -1, Hi: 1}},
		Init:  []int{0, 0, 0, 0, 0},
		Code: []api.Instr{
			{Op: api.OpIn, Dst: 0, A: 0, Sa: 4},
			{Op: api.OpGain, Dst: 1, A: 3, Sa: -1, Imm: 1},
			{Op: api.OpAdd, Dst: 2, A: 0, B: 1},
			{Op: api.OpMove, Dst: 4, A: 2},
			{Op: api.OpMove, Dst: 3, A: 4},
		},
		Outputs: []int{2},
	}
	if !sameProgram(p, want) || err != nil {
		t.Errorf("%v, %v, not %v", p, err, want)
	}
}

// The program of all kinds of blocks, by hand.
func TestEveryKind(t *testing.T) {
	f := []int{2, 5, 4, 4, 7, 3, 1, 0, 6, 9, 8, 10, 11, 12, 13}
	p, err := checkCompile(t, everyKind(), f)
	want := api.Program{
		Ports: []api.Port{{Lo: -50, Hi: 60, Frac: 3}, {Lo: 1, Hi: 2, Frac: 1}},
		Init:  []int{-9, 0, 0, 0, 0, 0, 0, 0, 0, 3072, 0, 0, 0, 0, 0, 0, 0, -14, 19, 1024, 2048},
		Code: []api.Instr{
			{Op: api.OpAbs, Dst: 10, A: 9, Sa: -1},
			{Op: api.OpMax, Dst: 11, A: 10, B: 19, Sa: 2},
			{Op: api.OpMin, Dst: 11, A: 11, B: 20},
			{Op: api.OpConst, Dst: 12, Imm: 5632},
			{Op: api.OpIn, Dst: 13, A: 0, Sa: 9},
			{Op: api.OpAdd, Dst: 1, A: 13, B: 0, Sa: -7, Sb: 3},
			{Op: api.OpSub, Dst: 2, A: 1, B: 12, Sa: -1, Sb: -7},
			{Op: api.OpNeg, Dst: 3, A: 2},
			{Op: api.OpGain, Dst: 4, A: 3, Sa: 2, Imm: -5},
			{Op: api.OpMul, Dst: 5, A: 4, B: 13, Sa: -16},
			{Op: api.OpMax, Dst: 6, A: 5, B: 17, Sa: -2},
			{Op: api.OpMin, Dst: 6, A: 6, B: 18},
			{Op: api.OpMin, Dst: 7, A: 6, B: 12, Sa: -1, Sb: -11},
			{Op: api.OpIn, Dst: 14, A: 1, Sa: 12},
			{Op: api.OpMax, Dst: 8, A: 7, B: 14, Sa: 6, Sb: -7},
			{Op: api.OpMove, Dst: 15, A: 8, Sa: -4},
			{Op: api.OpMove, Dst: 16, A: 0, Sa: 7},
			{Op: api.OpMove, Dst: 0, A: 15},
			{Op: api.OpMove, Dst: 9, A: 16},
		},
		Outputs: []int{9, 5, 0, 11, 5},
	}
	if !sameProgram(p, want) || err != nil {
		t.Errorf("%v, %v, not %v", p, err, want)
	}
}

// Every kind of block with every pair of scales of its own and of its first argument, and some of its second one.
func TestScalesOfEveryKind(t *testing.T) {
	for kind, n := range argsOf {
		b := api.Block{Kind: kind, Args: []int{1, 2}[:n]}
		if kind == api.BlockConst || kind == api.BlockDelay || kind == api.BlockGain || kind == api.BlockClip {
			b.Value = api.Scalar{Num: -1}
		}
		if kind == api.BlockClip {
			b.Upper = api.Scalar{Num: 3, Exp: -1}
		}
		d := api.Diagram{
			Blocks:  []api.Block{b, {Kind: api.BlockDelay, Args: []int{0}}, {Kind: api.BlockConst}},
			Outputs: []int{0},
		}
		for own := range 31 {
			for first := range 31 {
				d.Inputs = []api.Port{{}, {Frac: first}}
				for _, second := range []int{0, 1, 15, 29, 30} {
					if _, err := checkCompile(t, d, []int{own, first, second}); err != nil {
						t.Errorf("%v with the scales %d, %d, %d: %v", b, own, first, second, err)
					}
				}
			}
		}
	}
}

// A shift beyond its range can only be that of a gain.
func TestShiftsOfGains(t *testing.T) {
	kept, refused := 0, 0
	for own := range 31 {
		for first := range 31 {
			for exp := -62; exp <= 30; exp++ {
				for _, num := range []int{0, 1, -1<<31 + 1, 1<<31 - 1} {
					d := api.Diagram{Blocks: []api.Block{
						{Kind: api.BlockGain, Args: []int{1}, Value: api.Scalar{Num: num, Exp: exp}},
						{Kind: api.BlockConst},
					}}
					p, err := Compile(d, []int{own, first})
					shift := own - first + exp
					if shift < -62 || shift > 30 {
						refused++
						if !sameProgram(p, api.Program{}) || err != api.ErrRange {
							t.Errorf("shift %d: %v, %v", shift, p, err)
						}
						continue
					}
					kept++
					want := []api.Instr{{Op: api.OpConst, Dst: 1}, {Op: api.OpGain, Dst: 0, A: 1, Sa: shift, Imm: num}}
					if !slices.Equal(p.Code, want) || !slices.Equal(p.Init, []int{0, 0}) || err != nil {
						t.Errorf("shift %d: %v, %v", shift, p, err)
					}
				}
			}
		}
	}
	if kept < 1000 || refused < 1000 {
		t.Errorf("%d gains are kept, %d refused", kept, refused)
	}
}

// Delays may be arguments of each other: each one gets the value that the other one had.
func TestDelaysOfDelays(t *testing.T) {
	d := api.Diagram{Blocks: []api.Block{
		{Kind: api.BlockDelay, Args: []int{1}, Value: api.Scalar{Num: 1}},
		{Kind: api.BlockDelay, Args: []int{2}, Value: api.Scalar{Num: 2}},
		{Kind: api.BlockDelay, Args: []int{0}, Value: api.Scalar{Num: 3}},
		{Kind: api.BlockDelay, Args: []int{3}, Value: api.Scalar{Num: 4}},
	}, Outputs: []int{0, 1, 2, 3}}
	p, err := checkCompile(t, d, []int{0, 0, 0, 0})
	if err != nil {
		t.Fatal(err)
	}
	cells := p.Init
	for _, want := range [][]int{{2, 3, 1, 4}, {3, 1, 2, 4}, {1, 2, 3, 4}, {2, 3, 1, 4}} {
		run, err := code.Run(p, cells, nil)
		if !slices.Equal(run.Outputs, want) || err != nil {
			t.Errorf("%v, %v, not %v", run.Outputs, err, want)
		}
		cells = run.Cells
	}
}

// The greatest diagrams: no program gets beyond the limits of programs.
func TestGreatestPrograms(t *testing.T) {
	chain := func(kind, n int) api.Diagram {
		d := api.Diagram{Blocks: []api.Block{{Kind: api.BlockDelay, Args: []int{n}}}}
		for i := range n {
			d.Blocks = append(d.Blocks, api.Block{Kind: kind, Args: []int{i}})
		}
		return d
	}
	for _, c := range []struct{ kind, cells, instrs int }{
		{api.BlockClip, 64 + 1 + 2*63, 2*63 + 2},
		{api.BlockDelay, 64 + 64, 2 * 64},
		{api.BlockNeg, 64 + 1, 63 + 2},
	} {
		d := chain(c.kind, api.MaxBlocks-1)
		p, err := checkCompile(t, d, make([]int, api.MaxBlocks))
		if len(p.Init) != c.cells || len(p.Code) != c.instrs || err != nil {
			t.Errorf("kind %d: %d cells, %d instructions, %v", c.kind, len(p.Init), len(p.Code), err)
		}
	}
	d := api.Diagram{Inputs: make([]api.Port, api.MaxPorts), Blocks: make([]api.Block, api.MaxBlocks), Outputs: make([]int, api.MaxOuts)}
	for i := range d.Blocks {
		d.Blocks[i] = api.Block{Kind: api.BlockInput, Args: []int{i % api.MaxPorts}}
	}
	if p, err := checkCompile(t, d, make([]int, api.MaxBlocks)); len(p.Ports) != api.MaxPorts || len(p.Outputs) != api.MaxOuts || err != nil {
		t.Errorf("inputs: %v, %v", p, err)
	}
}

func TestEmptyPrograms(t *testing.T) {
	for _, d := range []api.Diagram{{}, {Inputs: []api.Port{}, Blocks: []api.Block{}, Outputs: []int{}}} {
		for _, f := range [][]int{nil, {}} {
			if p, err := checkCompile(t, d, f); !sameProgram(p, api.Program{}) || err != nil {
				t.Errorf("%v, %v", p, err)
			}
		}
	}
	d := api.Diagram{Inputs: []api.Port{{Lo: 1, Hi: 2, Frac: 3}}}
	if p, err := checkCompile(t, d, nil); !sameProgram(p, api.Program{Ports: d.Inputs}) || err != nil {
		t.Errorf("%v, %v", p, err)
	}
}

func TestRandomDiagrams(t *testing.T) {
	r := rand.New(rand.NewSource(1))
	made, overflows, ranges := 0, 0, 0
	look := func(d api.Diagram, f []int) {
		switch _, err := checkCompile(t, d, f); err {
		case nil:
			made++
		case api.ErrOverflow:
			overflows++
		case api.ErrRange:
			ranges++
		}
	}
	for _, numbers := range []style{wild, calm, short, whole} {
		for _, d := range diagrams(r, api.MaxBlocks, 6, numbers) {
			look(d, anyScales(r, len(d.Blocks), 0, 30))
			look(d, anyScales(r, len(d.Blocks), 5, 25))
			for _, i := range blocksOf(d, api.BlockGain) {
				d.Blocks[i].Value = wild.scalar(r)
			}
			look(d, anyScales(r, len(d.Blocks), 5, 25))
		}
	}
	if made < 1000 || overflows < 1000 || ranges < 200 {
		t.Errorf("%d programs, %d overflows, %d shifts out of range", made, overflows, ranges)
	}
}

func TestRawByHand(t *testing.T) {
	for _, c := range []struct {
		num, exp, f, want int
		err               error
	}{
		{0, 0, 0, 0, nil},
		{0, 30, 30, 0, nil},
		{0, -62, 0, 0, nil},
		{5, 0, 3, 40, nil},
		{5, -1, 0, 2, nil},
		{-5, -1, 0, -3, nil},
		{-5, -1, 1, -5, nil},
		{-5, -2, 1, -3, nil},
		{1<<31 - 1, 0, 0, 1<<31 - 1, nil},
		{1<<31 - 1, -62, 0, 0, nil},
		{1 - 1<<31, 0, 0, 1 - 1<<31, nil},
		{1 - 1<<31, -62, 0, -1, nil},
		{1 - 1<<31, -62, 30, -1, nil},
		{1<<31 - 1, -30, 30, 1<<31 - 1, nil},
		{1<<31 - 1, 0, 1, 0, api.ErrOverflow},
		{1, 30, 0, 1 << 30, nil},
		{1, 0, 30, 1 << 30, nil},
		{1, 1, 30, 0, api.ErrOverflow},
		{-1, 1, 30, -1 << 31, nil},
		{-1, 2, 30, 0, api.ErrOverflow},
		{-2, 30, 0, -1 << 31, nil},
		{-3, 30, 0, 0, api.ErrOverflow},
		{2, 30, 0, 0, api.ErrOverflow},
		{1, 30, 30, 0, api.ErrOverflow},
		{-1, 30, 30, 0, api.ErrOverflow},
		{1 << 30, 30, 4, 0, api.ErrOverflow},
		{1<<31 - 1, 30, 30, 0, api.ErrOverflow},
		{1 - 1<<31, 30, 30, 0, api.ErrOverflow},
	} {
		if n, err := Raw(api.Scalar{Num: c.num, Exp: c.exp}, c.f); n != c.want || err != c.err {
			t.Errorf("Raw(%d * 2^%d, %d) = %d, %v, not %d, %v", c.num, c.exp, c.f, n, err, c.want, c.err)
		}
	}
}

// Raw of numbers at all limits, with every Exp and every scale.
func TestRaw(t *testing.T) {
	r := rand.New(rand.NewSource(2))
	nums := []int{0, 1<<31 - 1, 1<<31 - 2}
	for bits := range 31 {
		nums = append(nums, 1<<bits, 1<<bits+1, 1<<bits-1, r.Intn(1<<bits))
	}
	kept, over := 0, 0
	for exp := -62; exp <= 30; exp++ {
		for f := range 31 {
			for _, num := range nums {
				for _, s := range []api.Scalar{{Num: num, Exp: exp}, {Num: -num, Exp: exp}} {
					want, wantErr := rawOf(s, f)
					if n, err := Raw(s, f); n != want || err != wantErr {
						t.Fatalf("Raw(%v, %d) = %d, %v, not %d, %v", s, f, n, err, want, wantErr)
					}
					if wantErr == nil {
						kept++
					} else {
						over++
					}
				}
			}
		}
	}
	if kept < 10000 || over < 10000 {
		t.Errorf("%d raw values are kept, %d overflow", kept, over)
	}
}

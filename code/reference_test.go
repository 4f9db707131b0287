package code

import (
	"math/big"
	"math/rand"
	"slices"

	"commutator/api"
)

// The first functions of this file follow the words of the chapter, in numbers of any length; the other ones make programs.

func power(k int) *big.Int {
	return new(big.Int).Lsh(big.NewInt(1), uint(k))
}

func number(x int) *big.Int {
	return big.NewInt(int64(x))
}

// floorOf is s(x, k) of the chapter. Div rounds down, as it divides by a positive number.
func floorOf(x *big.Int, k int) *big.Int {
	if k < 0 {
		return new(big.Int).Div(x, power(-k))
	}
	return new(big.Int).Mul(x, power(k))
}

// resultOf returns the exact result of an instruction.
func resultOf(x api.Instr, cells, in []int) *big.Int {
	word := func(i, k int) *big.Int { return floorOf(number(cells[i]), k) }
	switch x.Op {
	case api.OpIn:
		return floorOf(number(in[x.A]), x.Sa)
	case api.OpConst:
		return number(x.Imm)
	case api.OpMove:
		return word(x.A, x.Sa)
	case api.OpAdd:
		return new(big.Int).Add(word(x.A, x.Sa), word(x.B, x.Sb))
	case api.OpSub:
		return new(big.Int).Sub(word(x.A, x.Sa), word(x.B, x.Sb))
	case api.OpNeg:
		return new(big.Int).Neg(word(x.A, x.Sa))
	case api.OpAbs:
		return new(big.Int).Abs(word(x.A, x.Sa))
	case api.OpGain:
		return floorOf(new(big.Int).Mul(number(cells[x.A]), number(x.Imm)), x.Sa)
	case api.OpMul:
		return floorOf(new(big.Int).Mul(number(cells[x.A]), number(cells[x.B])), x.Sa)
	}
	list := []*big.Int{word(x.A, x.Sa), word(x.B, x.Sb)}
	slices.SortFunc(list, (*big.Int).Cmp)
	if x.Op == api.OpMin {
		return list[0]
	}
	return list[1]
}

// movedOf returns the nearest 32-bit int, and whether x is another number.
func movedOf(x *big.Int) (int, bool) {
	if least := new(big.Int).Neg(power(31)); x.Cmp(least) < 0 {
		return -1 << 31, true
	}
	if x.Cmp(power(31)) >= 0 {
		return 1<<31 - 1, true
	}
	return int(x.Int64()), false
}

func runOf(p api.Program, cells, in []int) api.CodeRun {
	run := api.CodeRun{Cells: slices.Clone(cells)}
	for _, x := range p.Code {
		y, moved := movedOf(resultOf(x, run.Cells, in))
		run.Cells[x.Dst] = y
		run.Overflow = run.Overflow || moved
	}
	for _, i := range p.Outputs {
		run.Outputs = append(run.Outputs, run.Cells[i])
	}
	return run
}

func writesOf(p api.Program) []int {
	var list []int
	for i := range p.Init {
		if slices.ContainsFunc(p.Code, func(x api.Instr) bool { return x.Dst == i }) {
			list = append(list, i)
		}
	}
	return list
}

// usedBy lists the fields that an operation uses beside Dst.
func usedBy(op int) []string {
	return [][]string{
		api.OpIn:    {"A", "Sa"},
		api.OpConst: {"Imm"},
		api.OpMove:  {"A", "Sa"},
		api.OpAdd:   {"A", "B", "Sa", "Sb"},
		api.OpSub:   {"A", "B", "Sa", "Sb"},
		api.OpNeg:   {"A", "Sa"},
		api.OpGain:  {"A", "Sa", "Imm"},
		api.OpMul:   {"A", "B", "Sa"},
		api.OpMin:   {"A", "B", "Sa", "Sb"},
		api.OpMax:   {"A", "B", "Sa", "Sb"},
		api.OpAbs:   {"A", "Sa"},
	}[op]
}

const operations = 11

func fieldOf(x *api.Instr, name string) *int {
	switch name {
	case "Dst":
		return &x.Dst
	case "A":
		return &x.A
	case "B":
		return &x.B
	case "Sa":
		return &x.Sa
	case "Sb":
		return &x.Sb
	}
	return &x.Imm
}

func uses(op int, name string) bool {
	return slices.Contains(usedBy(op), name)
}

// sample has an instruction of every operation, and every field that one of them uses is not 0.
func sample() api.Program {
	return api.Program{
		Ports: []api.Port{{Lo: -9, Hi: 9, Frac: 2}, {Lo: 3, Hi: 1<<31 - 1, Frac: 30}},
		Init:  []int{5, -3, 0, -1 << 31, 1<<31 - 1},
		Code: []api.Instr{
			{Op: api.OpIn, Dst: 2, A: 1, Sa: -7},
			{Op: api.OpConst, Dst: 1, Imm: -77},
			{Op: api.OpMove, Dst: 3, A: 1, Sa: 1},
			{Op: api.OpAdd, Dst: 4, A: 3, B: 2, Sa: -1, Sb: 2},
			{Op: api.OpSub, Dst: 2, A: 2, B: 4, Sa: 2, Sb: -1},
			{Op: api.OpNeg, Dst: 3, A: 1, Sa: -1},
			{Op: api.OpGain, Dst: 1, A: 4, Sa: -3, Imm: 21},
			{Op: api.OpMul, Dst: 4, A: 1, B: 2, Sa: -9},
			{Op: api.OpMin, Dst: 1, A: 4, B: 3, Sa: -2, Sb: 1},
			{Op: api.OpMax, Dst: 2, A: 1, B: 2, Sa: 3, Sb: -4},
			{Op: api.OpAbs, Dst: 4, A: 1, Sa: 2},
		},
		Outputs: []int{4, 0, 2},
	}
}

// anyWord returns a 32-bit int of any length.
func anyWord(r *rand.Rand) int {
	limit := 1 << r.Intn(32)
	return r.Intn(2*limit) - limit
}

func anyWords(r *rand.Rand, n int) []int {
	var list []int
	for range n {
		list = append(list, anyWord(r))
	}
	return list
}

func anyPort(r *rand.Rand) api.Port {
	ends := anyWords(r, 2)
	slices.Sort(ends)
	return api.Port{Lo: ends[0], Hi: ends[1], Frac: r.Intn(api.MaxFrac + 1)}
}

// anyIn returns inputs in the ranges of the ports, often at their ends.
func anyIn(r *rand.Rand, ports []api.Port) []int {
	var in []int
	for _, p := range ports {
		in = append(in, []int{p.Lo, p.Hi, p.Lo + r.Intn(p.Hi-p.Lo+1)}[r.Intn(3)])
	}
	return in
}

// quietShift returns a shift with which an operation of 32-bit ints never leads to an overflow.
func quietShift(r *rand.Rand, op int) int {
	most := -1
	if op == api.OpMul || op == api.OpGain {
		most = -32
	}
	if r.Intn(4) > 0 {
		return most - r.Intn(3)
	}
	return most - r.Intn(most+62+1)
}

// anyInstr returns an instruction; a quiet one never leads to an overflow.
func anyInstr(r *rand.Rand, ports, cells int, quiet bool) api.Instr {
	op := r.Intn(operations)
	if ports == 0 && op == api.OpIn {
		op = api.OpConst
	}
	x := api.Instr{Op: op, Dst: r.Intn(cells)}
	for _, name := range usedBy(op) {
		field := fieldOf(&x, name)
		switch {
		case name == "A" && op == api.OpIn:
			*field = r.Intn(ports)
		case name == "A" || name == "B":
			*field = r.Intn(cells)
		case name == "Imm":
			*field = anyWord(r)
		case quiet:
			*field = quietShift(r, op)
		default:
			*field = r.Intn(93) - 62
		}
	}
	return x
}

// anyProgram returns a program of the given sizes in which about loud of all instructions may lead to overflows.
func anyProgram(r *rand.Rand, ports, cells, instrs int, loud float64) api.Program {
	p := api.Program{Init: anyWords(r, cells)}
	for range ports {
		p.Ports = append(p.Ports, anyPort(r))
	}
	if cells == 0 {
		return p
	}
	for range instrs {
		p.Code = append(p.Code, anyInstr(r, ports, cells, r.Float64() >= loud))
	}
	for range r.Intn(api.MaxOuts + 1) {
		p.Outputs = append(p.Outputs, r.Intn(cells))
	}
	return p
}

// programs are examples and random programs of all sizes.
func programs(seed int64) []api.Program {
	r := rand.New(rand.NewSource(seed))
	list := []api.Program{
		{},
		sample(),
		{Ports: []api.Port{{}}},
		{Init: []int{7}},
		anyProgram(r, api.MaxPorts, api.MaxCells, api.MaxInstrs, 0),
		anyProgram(r, api.MaxPorts, api.MaxCells, api.MaxInstrs, 1),
		anyProgram(r, 0, 1, api.MaxInstrs, 1),
	}
	for i := range 1500 {
		loud := []float64{0, 0.01, 0.1, 1}[i%4]
		cells := 1 + r.Intn(8)
		if r.Intn(4) == 0 {
			cells = r.Intn(api.MaxCells + 1)
		}
		list = append(list, anyProgram(r, r.Intn(api.MaxPorts+1), cells, r.Intn(1<<r.Intn(9)+1), loud))
	}
	return list
}

// copied returns p in new memory.
func copied(p api.Program) api.Program {
	return api.Program{Ports: slices.Clone(p.Ports), Init: slices.Clone(p.Init), Code: slices.Clone(p.Code), Outputs: slices.Clone(p.Outputs)}
}

func sameProgram(a, b api.Program) bool {
	return slices.Equal(a.Ports, b.Ports) && slices.Equal(a.Init, b.Init) && slices.Equal(a.Code, b.Code) && slices.Equal(a.Outputs, b.Outputs)
}

func sameRun(a, b api.CodeRun) bool {
	return slices.Equal(a.Cells, b.Cells) && slices.Equal(a.Outputs, b.Outputs) && a.Overflow == b.Overflow
}

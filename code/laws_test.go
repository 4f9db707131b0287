package code

import (
	"math/big"
	"math/rand"
	"slices"
	"testing"

	"commutator/api"
)

// mustRun is Run for arguments that are accepted.
func mustRun(t *testing.T, p api.Program, cells, in []int) api.CodeRun {
	t.Helper()
	result, err := Run(p, cells, in)
	if err != nil {
		t.Fatalf("Run(%v, %v, %v): %v", p, cells, in, err)
	}
	return result
}

// P14.2: cells that no instruction writes keep their values, from run to run.
func TestOtherCellsKeepTheirValues(t *testing.T) {
	r := rand.New(rand.NewSource(10))
	stayed, changed := 0, 0
	for _, p := range programs(11) {
		written, err := Writes(p)
		if err != nil {
			t.Fatalf("Writes(%v): %v", p, err)
		}
		start := anyWords(r, len(p.Init))
		cells := start
		for range 3 {
			cells = mustRun(t, p, cells, anyIn(r, p.Ports)).Cells
			for i, x := range cells {
				switch {
				case slices.Contains(written, i):
					if x != start[i] {
						changed++
					}
				case x != start[i]:
					t.Fatalf("%v does not write cell %d, which became %d of %d", p, i, x, start[i])
				default:
					stayed++
				}
			}
		}
	}
	if stayed < 1000 || changed < 1000 {
		t.Errorf("%d cells stayed, %d changed", stayed, changed)
	}
}

// joined returns the program of p and q, one behind the other, with the outputs of q.
func joined(p, q api.Program) api.Program {
	p.Code = slices.Concat(p.Code, q.Code)
	p.Outputs = q.Outputs
	return p
}

// anyLike returns a program with the ports and as many cells as p, so short that both together are no longer than a program may be.
func anyLike(r *rand.Rand, p api.Program) api.Program {
	q := api.Program{Ports: p.Ports, Init: anyWords(r, len(p.Init))}
	if len(p.Init) == 0 {
		return q
	}
	loud := []float64{0, 0.1, 1}[r.Intn(3)]
	for range r.Intn(min(40, api.MaxInstrs-len(p.Code)) + 1) {
		q.Code = append(q.Code, anyInstr(r, len(p.Ports), len(p.Init), r.Float64() >= loud))
	}
	for range r.Intn(api.MaxOuts + 1) {
		q.Outputs = append(q.Outputs, r.Intn(len(p.Init)))
	}
	return q
}

// P14.2: running a program and then another one is running both, one behind the other.
func TestOneBehindTheOther(t *testing.T) {
	r := rand.New(rand.NewSource(12))
	overflows := [2][2]int{}
	for _, p := range programs(13) {
		q := anyLike(r, p)
		cells, in := anyWords(r, len(p.Init)), anyIn(r, p.Ports)
		first := mustRun(t, p, cells, in)
		second := mustRun(t, q, first.Cells, in)
		both := mustRun(t, joined(p, q), cells, in)
		want := api.CodeRun{Cells: second.Cells, Outputs: second.Outputs, Overflow: first.Overflow || second.Overflow}
		if !sameRun(both, want) {
			t.Fatalf("%v and then %v: %v, not %v", p, q, both, want)
		}
		overflows[digit(first.Overflow)][digit(second.Overflow)]++
	}
	for _, list := range overflows {
		if slices.Min(list[:]) < 50 {
			t.Errorf("overflows in both programs, or in one of them: %v", overflows)
		}
	}
}

func digit(is bool) int {
	if is {
		return 1
	}
	return 0
}

// P14.2: a program is the same as its instructions, each of them a program of its own.
func TestInstructionByInstruction(t *testing.T) {
	r := rand.New(rand.NewSource(14))
	for _, p := range programs(15)[:400] {
		cells, in := anyWords(r, len(p.Init)), anyIn(r, p.Ports)
		want := mustRun(t, p, cells, in)
		got := mustRun(t, api.Program{Ports: p.Ports, Init: p.Init, Outputs: p.Outputs}, cells, in)
		for _, x := range p.Code {
			next := mustRun(t, api.Program{Ports: p.Ports, Init: p.Init, Code: []api.Instr{x}, Outputs: p.Outputs}, got.Cells, in)
			next.Overflow = next.Overflow || got.Overflow
			got = next
		}
		if !sameRun(got, want) {
			t.Fatalf("%v instruction by instruction: %v, not %v", p, got, want)
		}
	}
}

// fraction returns x * 2^k, exactly.
func fraction(x *big.Int, k int) *big.Rat {
	if k < 0 {
		return new(big.Rat).SetFrac(x, power(-k))
	}
	return new(big.Rat).SetInt(new(big.Int).Mul(x, power(k)))
}

// operandsIn returns the numbers that an instruction shifts, with their shifts, as exact fractions.
func operandsIn(x api.Instr, a, b int) []*big.Rat {
	switch x.Op {
	case api.OpConst:
		return []*big.Rat{fraction(number(x.Imm), 0)}
	case api.OpGain:
		return []*big.Rat{fraction(new(big.Int).Mul(number(a), number(x.Imm)), x.Sa)}
	case api.OpMul:
		return []*big.Rat{fraction(new(big.Int).Mul(number(a), number(b)), x.Sa)}
	case api.OpAdd, api.OpSub, api.OpMin, api.OpMax:
		return []*big.Rat{fraction(number(a), x.Sa), fraction(number(b), x.Sb)}
	}
	return []*big.Rat{fraction(number(a), x.Sa)}
}

// operation returns the result of an operation for exact fractions.
func operation(op int, list []*big.Rat) *big.Rat {
	y := new(big.Rat).Set(list[0])
	switch op {
	case api.OpAdd:
		y.Add(y, list[1])
	case api.OpSub:
		y.Sub(y, list[1])
	case api.OpNeg:
		y.Neg(y)
	case api.OpAbs:
		y.Abs(y)
	case api.OpMin:
		y = slices.MinFunc(list, (*big.Rat).Cmp)
	case api.OpMax:
		y = slices.MaxFunc(list, (*big.Rat).Cmp)
	}
	return y
}

// missing returns how far a result may be below and above the exact one, both excluded, if n operands are rounded down by less than 1.
func missing(op, n int) (below, above int64) {
	switch op {
	case api.OpSub, api.OpAbs:
		return 1, 1
	case api.OpNeg:
		return 0, 1
	case api.OpAdd:
		return int64(n), 0
	}
	return 1, 0
}

// P14.3: without an overflow a result is the exact one; with shifts to the right that lose something, each shifted number is too
// small by less than 1.
func TestResultsAreNearExactOnes(t *testing.T) {
	r := rand.New(rand.NewSource(16))
	exact, rounded := [operations]int{}, [operations]int{}
	for range 200000 {
		x := anyInstr(r, 1, 3, r.Intn(2) == 0)
		if uses(x.Op, "A") {
			x.A = 0
		}
		a, b := anyWord(r), anyWord(r)
		if uses(x.Op, "Sa") && r.Intn(2) == 0 {
			x.Sa = -r.Intn(3)
		}
		if uses(x.Op, "Sb") && r.Intn(2) == 0 {
			x.Sb = -r.Intn(3)
		}
		p := single(x)
		got := mustRun(t, p, []int{a, b, 0}, []int{a})
		if got.Overflow {
			continue
		}
		list := operandsIn(x, a, b)
		off := new(big.Rat).SetInt64(int64(got.Outputs[0]))
		off.Sub(off, operation(x.Op, list))
		if !slices.ContainsFunc(list, func(y *big.Rat) bool { return !y.IsInt() }) {
			exact[x.Op]++
			if off.Sign() != 0 {
				t.Fatalf("%v of %d and %d is off by %v", x, a, b, off)
			}
			continue
		}
		rounded[x.Op]++
		below, above := missing(x.Op, len(list))
		if off.Sign() != 0 && (off.Cmp(big.NewRat(-below, 1)) <= 0 || off.Cmp(big.NewRat(above, 1)) >= 0) {
			t.Fatalf("%v of %d and %d is off by %v", x, a, b, off)
		}
	}
	for op := range operations {
		if exact[op] < 300 || uses(op, "Sa") && rounded[op] < 300 {
			t.Errorf("operation %d: %d results are exact, %d rounded", op, exact[op], rounded[op])
		}
	}
}

// P14.3: shifts to the left, and none, lose nothing.
func TestShiftsToTheLeftAreExact(t *testing.T) {
	r := rand.New(rand.NewSource(17))
	seen := [operations]int{}
	for range 100000 {
		op := r.Intn(operations)
		x := api.Instr{Op: op}
		for _, name := range usedBy(op) {
			switch name {
			case "Sa", "Sb":
				*fieldOf(&x, name) = r.Intn(31)
			case "Imm":
				x.Imm = anyWord(r)
			}
		}
		a, b := anyWord(r), anyWord(r)
		if r.Intn(2) == 0 {
			a, b, x.Imm = a%64, b%64, x.Imm%64
		}
		got := mustRun(t, single(x), []int{a, b, 0}, []int{a})
		want := operation(op, operandsIn(x, a, b))
		fits := want.Cmp(big.NewRat(-1<<31, 1)) >= 0 && want.Cmp(big.NewRat(1<<31-1, 1)) <= 0
		if got.Overflow == fits || fits && want.Cmp(big.NewRat(int64(got.Outputs[0]), 1)) != 0 {
			t.Fatalf("%v of %d and %d: %v, not %v", x, a, b, got, want)
		}
		if fits {
			seen[op]++
		}
	}
	if slices.Min(seen[:]) < 500 {
		t.Errorf("results that fit: %v", seen)
	}
}

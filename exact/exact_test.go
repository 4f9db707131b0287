package exact

import (
	"math/big"
	"math/rand"
	"testing"

	"commutator/api"
	"commutator/dyadic"
)

// P11.1: every function returns what is specified.

func checkStart(t *testing.T, d api.Diagram, want ...api.Dyadic) {
	t.Helper()
	if state, err := Start(d); !sameNumbers(state, want) || err != nil {
		t.Fatalf("Start(%v) = %v, %v, not %v", d, state, err, want)
	}
}

// checkStep compares a step with the reference, and reports whether all values are short enough.
func checkStep(t *testing.T, d api.Diagram, state []*big.Rat, in []int) bool {
	t.Helper()
	next, values, err := Step(d, dyadicsOf(state), in)
	wantNext, wantValues, ok := stepOf(d, state, in)
	if !ok {
		if len(next) > 0 || len(values) > 0 || err != api.ErrLarge {
			t.Fatalf("Step(%v, %v, %v) = %v, %v, %v, not too large", d, state, in, next, values, err)
		}
		return false
	}
	if !sameNumbers(next, dyadicsOf(wantNext)) || !sameNumbers(values, dyadicsOf(wantValues)) || err != nil {
		t.Fatalf("Step(%v, %v, %v) = %v, %v, %v, not %v, %v", d, state, in, next, values, err, wantNext, wantValues)
	}
	return true
}

// checkRun compares a run with the reference, and reports whether all values are short enough.
func checkRun(t *testing.T, d api.Diagram, list [][]int) bool {
	t.Helper()
	outputs, err := Run(d, list)
	want, ok := runOf(d, list)
	if !ok {
		if len(outputs) > 0 || err != api.ErrLarge {
			t.Fatalf("Run(%v, %v) = %v, %v, not too large", d, list, outputs, err)
		}
		return false
	}
	if !sameRows(outputs, want) || err != nil {
		t.Fatalf("Run(%v, %v) = %v, %v, not %v", d, list, outputs, err, want)
	}
	return true
}

// texts returns the texts of the numbers of a run with one output.
func texts(t *testing.T, d api.Diagram, list [][]int) string {
	t.Helper()
	outputs, err := Run(d, list)
	if err != nil {
		t.Fatalf("Run(%v, %v): %v", d, list, err)
	}
	s := ""
	for _, row := range outputs {
		for _, x := range row {
			s += dyadic.Text(x) + " "
		}
	}
	return s
}

func TestExamples(t *testing.T) {
	if s := texts(t, made(), [][]int{{3}, {4}, {-2}}); s != "3 7 5 " {
		t.Errorf("the sums are %s", s)
	}
	if x, err := Value(api.Scalar{Num: 3, Exp: -2}); dyadic.Text(x) != "3/2^2" || err != nil {
		t.Errorf("3 * 2^-2 is %v, %v", x, err)
	}
}

func checkValue(t *testing.T, s api.Scalar) {
	t.Helper()
	if x, err := Value(s); !sameNumber(x, dyadicOf(scalarOf(s))) || err != nil {
		t.Errorf("Value(%v) = %v, %v", s, x, err)
	}
}

func TestValue(t *testing.T) {
	r := rand.New(rand.NewSource(1))
	for exp := -62; exp <= 30; exp++ {
		for _, num := range []int{0, 1, -1, 2, -3, 64, 1<<31 - 1, 1 - 1<<31, 1<<31 - 2, -1 << 30} {
			checkValue(t, api.Scalar{Num: num, Exp: exp})
		}
		for range 20 {
			checkValue(t, api.Scalar{Num: r.Intn(1<<32-1) - (1<<31 - 1), Exp: exp})
		}
	}
}

// operation is a block of two inputs and its value in quarters, where the inputs are in halves.
type operation struct {
	block api.Block
	of    func(x, y int) int
}

func operations() []operation {
	half, minus := api.Scalar{Num: 3, Exp: -1}, api.Scalar{Num: -1}
	both, one, other := []int{0, 1}, []int{0}, []int{1}
	return []operation{
		{api.Block{Kind: api.BlockInput, Args: one}, func(x, y int) int { return 2 * x }},
		{api.Block{Kind: api.BlockInput, Args: other}, func(x, y int) int { return 2 * y }},
		{api.Block{Kind: api.BlockConst, Value: half}, func(x, y int) int { return 6 }},
		{api.Block{Kind: api.BlockDelay, Args: one, Value: half}, func(x, y int) int { return 6 }},
		{api.Block{Kind: api.BlockAdd, Args: both}, func(x, y int) int { return 2*x + 2*y }},
		{api.Block{Kind: api.BlockSub, Args: both}, func(x, y int) int { return 2*x - 2*y }},
		{api.Block{Kind: api.BlockNeg, Args: other}, func(x, y int) int { return -2 * y }},
		{api.Block{Kind: api.BlockGain, Args: one, Value: half}, func(x, y int) int { return 3 * x }},
		{api.Block{Kind: api.BlockGain, Args: other, Value: minus}, func(x, y int) int { return -2 * y }},
		{api.Block{Kind: api.BlockGain, Args: other}, func(x, y int) int { return 0 }},
		{api.Block{Kind: api.BlockMul, Args: both}, func(x, y int) int { return x * y }},
		{api.Block{Kind: api.BlockMul, Args: []int{1, 1}}, func(x, y int) int { return y * y }},
		{api.Block{Kind: api.BlockMin, Args: both}, func(x, y int) int { return 2 * min(x, y) }},
		{api.Block{Kind: api.BlockMax, Args: both}, func(x, y int) int { return 2 * max(x, y) }},
		{api.Block{Kind: api.BlockAbs, Args: one}, func(x, y int) int { return 2 * max(x, -x) }},
		{api.Block{Kind: api.BlockClip, Args: other, Value: minus, Upper: half}, func(x, y int) int { return 2 * max(-2, min(y, 3)) }},
		{api.Block{Kind: api.BlockClip, Args: other, Value: minus, Upper: minus}, func(x, y int) int { return -4 }},
	}
}

func TestEveryKind(t *testing.T) {
	for _, op := range operations() {
		d := api.Diagram{
			Inputs:  []api.Port{{Lo: -7, Hi: 7, Frac: 1}, {Lo: -7, Hi: 7, Frac: 1}},
			Blocks:  []api.Block{{Kind: api.BlockInput, Args: []int{0}}, {Kind: api.BlockInput, Args: []int{1}}, op.block},
			Outputs: []int{2},
		}
		for x := -7; x <= 7; x++ {
			for y := -7; y <= 7; y++ {
				want, err := dyadic.Make(op.of(x, y), 2)
				if err != nil {
					t.Fatal(err)
				}
				outputs, err := Run(d, [][]int{{x, y}})
				if err != nil || !sameRows(outputs, [][]api.Dyadic{{want}}) {
					t.Errorf("%v of %d/2 and %d/2: %v, %v", op.block, x, y, outputs, err)
				}
			}
		}
	}
}

func TestDelaysShowTheTickBefore(t *testing.T) {
	d := squares()
	checkStart(t, d, dyadicsOf([]*big.Rat{scaled(3, 0), scaled(-5, -1), new(big.Rat)})...)
	// The first delay is 3, 9 + 1/2 and 361/4 - 3/2 = 355/4; each row has the third, the second, the third and the input.
	if s := texts(t, d, [][]int{{1, 7}, {-3, 7}, {4, 7}, {0, 7}}); s != "0 -5/2^1 0 1/2^1 -5/2^1 3 -5/2^1 -3/2^1 3 19/2^1 3 2 19/2^1 355/2^2 19/2^1 0 " {
		t.Errorf("the outputs are %s", s)
	}
}

func TestStateOfOtherTicks(t *testing.T) {
	next, values, err := Step(squares(), dyadicsOf([]*big.Rat{scaled(-1, -2), scaled(7, 0), scaled(9, -3)}), []int{3, 7})
	wantNext := dyadicsOf([]*big.Rat{scaled(25, -4), scaled(-1, -2), scaled(7, 0)})
	wantValues := dyadicsOf([]*big.Rat{scaled(-1, -2), scaled(1, -4), scaled(7, 0), scaled(25, -4), scaled(3, -1), scaled(9, -3)})
	if !sameNumbers(next, wantNext) || !sameNumbers(values, wantValues) || err != nil {
		t.Errorf("%v, %v, %v, not %v, %v", next, values, err, wantNext, wantValues)
	}
}

func TestDiagramsWithoutBlocks(t *testing.T) {
	checkStart(t, api.Diagram{})
	checkStep(t, api.Diagram{}, nil, nil)
	d := api.Diagram{Inputs: []api.Port{{Lo: -1, Hi: 1}}}
	checkStart(t, d)
	checkStep(t, d, nil, []int{1})
	for n := range 4 {
		if outputs, err := Run(api.Diagram{}, make([][]int, n)); err != nil || len(outputs) != n {
			t.Errorf("Run in %d ticks: %v, %v", n, outputs, err)
		}
	}
	if outputs, err := Run(d, nil); len(outputs) > 0 || err != nil {
		t.Errorf("Run in no ticks: %v, %v", outputs, err)
	}
}

// count counts the calls of a test with short values and those with one that is too long; it fails if there are few of either.
type count struct{ good, long int }

func (c *count) add(good bool) {
	if good {
		c.good++
	} else {
		c.long++
	}
}

func (c *count) check(t *testing.T) {
	t.Helper()
	if c.good < 40 || c.long < 40 {
		t.Errorf("%d calls have short values, %d have not", c.good, c.long)
	}
}

func TestStepsOfAllSizes(t *testing.T) {
	r := rand.New(rand.NewSource(2))
	var seen count
	for _, d := range diagrams(3, api.MaxBlocks, false) {
		checkStart(t, d, dyadicsOf(startOf(d))...)
		for _, in := range anyInputs(r, d, 6, 1) {
			seen.add(checkStep(t, d, anyState(r, d), in))
		}
	}
	seen.check(t)
}

func TestRunsOfAllSizes(t *testing.T) {
	r := rand.New(rand.NewSource(4))
	var seen count
	for _, d := range diagrams(5, api.MaxBlocks, false) {
		seen.add(checkRun(t, d, anyInputs(r, d, 1+r.Intn(40), 1)))
	}
	seen.check(t)
}

// A run is a sequence of steps.
func TestRunsAreSteps(t *testing.T) {
	r := rand.New(rand.NewSource(6))
	for _, d := range diagrams(7, 12, false) {
		list := anyInputs(r, d, 20, 1)
		state, err := Start(d)
		if err != nil {
			t.Fatalf("Start(%v): %v", d, err)
		}
		var want [][]api.Dyadic
		for _, in := range list {
			var values []api.Dyadic
			if state, values, err = Step(d, state, in); err != nil {
				break
			}
			var row []api.Dyadic
			for _, i := range d.Outputs {
				row = append(row, values[i])
			}
			want = append(want, row)
		}
		if err != nil {
			want = nil
		}
		if outputs, runErr := Run(d, list); !sameRows(outputs, want) || runErr != err {
			t.Fatalf("Run(%v, %v) = %v, %v, not %v, %v", d, list, outputs, runErr, want, err)
		}
	}
}

package exact

import (
	"math/big"
	"math/rand"
	"testing"

	"commutator/api"
	"commutator/diagram"
	"commutator/dyadic"
)

// checkEquations checks the equation of each block for itself, whatever the order of evaluation was.
func checkEquations(t *testing.T, d api.Diagram, state, next, values []api.Dyadic, in []int) {
	t.Helper()
	k := &tickOf{d: d, in: in}
	value := func(i int) *big.Rat { return fractionOf(values[i]) }
	delay := 0
	for i, b := range d.Blocks {
		if b.Kind != api.BlockDelay {
			if want := k.equation(i, value); value(i).Cmp(want) != 0 {
				t.Fatalf("block %d of %v is %v, not %v", i, d, values[i], want)
			}
			continue
		}
		if !sameNumber(values[i], state[delay]) || !sameNumber(next[delay], values[b.Args[0]]) {
			t.Fatalf("delay %d of %v is %v, and then %v, with %v", i, d, values[i], next[delay], values)
		}
		delay++
	}
	if delay != len(next) || len(values) != len(d.Blocks) {
		t.Fatalf("%d delays and %d values of %v", len(next), len(values), d)
	}
}

// P11.2: values satisfy the equation of each block.
func TestEquations(t *testing.T) {
	r := rand.New(rand.NewSource(11))
	seen := 0
	for _, d := range diagrams(12, api.MaxBlocks, false) {
		state := dyadicsOf(anyState(r, d))
		for _, in := range anyInputs(r, d, 3, 1) {
			next, values, err := Step(d, state, in)
			if err != nil {
				continue
			}
			checkEquations(t, d, state, next, values, in)
			state = next
			seen++
		}
	}
	if seen < 200 {
		t.Errorf("only %d ticks have short values", seen)
	}
}

// P11.2: numbered in another order, the blocks have the same values.
func TestRenumberedBlocks(t *testing.T) {
	r := rand.New(rand.NewSource(13))
	seen := 0
	for _, d := range diagrams(14, api.MaxBlocks, false) {
		place := r.Perm(len(d.Blocks))
		other := renumbered(d, place)
		list := anyInputs(r, d, 4, 1)
		checkRun(t, other, list)
		outputs, err := Run(d, list)
		otherOutputs, otherErr := Run(other, list)
		if !sameRows(outputs, otherOutputs) || err != otherErr {
			t.Fatalf("Run(%v, %v) = %v, %v, renumbered %v, %v", d, list, outputs, err, otherOutputs, otherErr)
		}
		state, otherState := startOf(d), startOf(other)
		_, values, err := Step(d, dyadicsOf(state), list[0])
		_, otherValues, otherErr := Step(other, dyadicsOf(otherState), list[0])
		if err != otherErr {
			t.Fatalf("Step(%v, %v) has the error %v, renumbered %v", d, list[0], err, otherErr)
		}
		for i, x := range values {
			seen++
			if !sameNumber(x, otherValues[place[i]]) {
				t.Fatalf("block %d of %v is %v, renumbered %v", i, d, x, otherValues[place[i]])
			}
		}
	}
	if seen < 2000 {
		t.Errorf("only %d blocks are compared", seen)
	}
}

// P11.2: a pruned diagram has the same outputs; it may have some where the other one has too long a value that no output needs.
func TestPrunedDiagrams(t *testing.T) {
	r := rand.New(rand.NewSource(15))
	smaller := 0
	for _, d := range diagrams(16, api.MaxBlocks, false) {
		pruned, kept, err := diagram.Prune(d)
		if err != nil {
			t.Fatalf("Prune(%v): %v", d, err)
		}
		list := anyInputs(r, d, 4, 1)
		outputs, err := Run(d, list)
		if err != nil {
			continue
		}
		if got, err := Run(pruned, list); !sameRows(got, outputs) || err != nil {
			t.Fatalf("Run(%v, %v) = %v, pruned %v, %v", d, list, outputs, got, err)
		}
		if len(kept) < len(d.Blocks) && len(outputs[0]) > 0 {
			smaller++
		}
	}
	if smaller < 50 {
		t.Errorf("only %d diagrams with outputs get smaller", smaller)
	}
}

func TestPrunedDiagramWithoutItsLongBlock(t *testing.T) {
	d := squares()
	d.Outputs = []int{4}
	d.Inputs[0] = api.Port{Lo: 1, Hi: 1}
	list := make([][]int, 20)
	for tick := range list {
		list[tick] = []int{1, 7}
	}
	if outputs, err := Run(d, list); len(outputs) > 0 || err != api.ErrLarge {
		t.Errorf("Run with a square of 20 ticks: %v, %v", outputs, err)
	}
	pruned, _, err := diagram.Prune(d)
	if err != nil {
		t.Fatal(err)
	}
	if outputs, err := Run(pruned, list); len(outputs) != 20 || err != nil {
		t.Errorf("Run without it: %v, %v", outputs, err)
	}
}

// sums returns the sums of two lists of inputs.
func sums(a, b [][]int) [][]int {
	list := make([][]int, len(a))
	for tick := range a {
		for i := range a[tick] {
			list[tick] = append(list[tick], a[tick][i]+b[tick][i])
		}
	}
	return list
}

func zeros(a [][]int) [][]int {
	list := make([][]int, len(a))
	for tick := range a {
		list[tick] = make([]int, len(a[tick]))
	}
	return list
}

// checkAffine checks the law for two lists of inputs, and reports whether all values are short enough and differ.
func checkAffine(t *testing.T, d api.Diagram, a, b [][]int) bool {
	t.Helper()
	var runs [4][][]api.Dyadic
	for i, list := range [][][]int{sums(a, b), a, b, zeros(a)} {
		outputs, err := Run(d, list)
		if err == api.ErrLarge {
			return false
		}
		if err != nil {
			t.Fatalf("Run(%v, %v): %v", d, list, err)
		}
		runs[i] = outputs
	}
	moved := false
	for tick := range a {
		for out := range d.Outputs {
			left := dyadic.Sub(runs[0][tick][out], runs[1][tick][out])
			right := dyadic.Sub(runs[2][tick][out], runs[3][tick][out])
			if !sameNumber(left, right) {
				t.Fatalf("%v with %v and %v: in tick %d output %d moves by %v and %v", d, a, b, tick, out, left, right)
			}
			moved = moved || dyadic.Sign(left) != 0
		}
	}
	return moved
}

// P11.3: an affine diagram is affine.
func TestAffineDiagrams(t *testing.T) {
	r := rand.New(rand.NewSource(17))
	seen, products := 0, 0
	for _, d := range diagrams(18, api.MaxBlocks, true) {
		if is, err := diagram.Affine(d); !is || err != nil {
			t.Fatalf("Affine(%v) = %v, %v", d, is, err)
		}
		if !checkAffine(t, d, anyInputs(r, d, 6, 2), anyInputs(r, d, 6, 2)) {
			continue
		}
		seen++
		for _, b := range d.Blocks {
			if b.Kind == api.BlockMul {
				products++
			}
		}
	}
	if seen < 200 || products < 100 {
		t.Errorf("only %d diagrams move, with %d products", seen, products)
	}
}

package ranges

import (
	"math/big"
	"math/rand"
	"testing"

	"commutator/api"
	"commutator/dyadic"
	"commutator/exact"
	"commutator/interval"
)

// anyIn returns a number of a: one of its ends, or one between them.
func anyIn(r *rand.Rand, a api.Interval) api.Dyadic {
	switch r.Intn(4) {
	case 0:
		return a.Lo
	case 1:
		return a.Hi
	}
	part, err := dyadic.Make(r.Intn(17), 4)
	if err != nil {
		panic(err)
	}
	return dyadic.Add(a.Lo, dyadic.Mul(interval.Width(a), part))
}

func anyState(r *rand.Rand, inv []api.Interval) []api.Dyadic {
	var state []api.Dyadic
	for _, a := range inv {
		state = append(state, anyIn(r, a))
	}
	return state
}

func anyInputs(r *rand.Rand, d api.Diagram) []int {
	var in []int
	for _, port := range d.Inputs {
		x := port.Lo + r.Intn(port.Hi-port.Lo+1)
		if r.Intn(3) == 0 {
			x = [2]int{port.Lo, port.Hi}[r.Intn(2)]
		}
		in = append(in, x)
	}
	return in
}

func checkValues(t *testing.T, d api.Diagram, inv, ranges []api.Interval, state []api.Dyadic, values []api.Dyadic) {
	t.Helper()
	if len(ranges) != len(values) {
		t.Fatalf("%d ranges and %d values of %v", len(ranges), len(values), d)
	}
	for i, x := range values {
		if !interval.Contains(ranges[i], x) {
			t.Fatalf("block %d of %v is %v, not in %v, with the state %v in %v", i, d, dyadic.Text(x), interval.Text(ranges[i]), state, texts(inv))
		}
	}
}

// P12.2: with a state in the invariants, all values of the tick are in the ranges.
func TestValuesAreInRanges(t *testing.T) {
	r := rand.New(rand.NewSource(11))
	seen := 0
	for _, d := range diagrams(12, api.MaxBlocks) {
		inv := intervalsOf(anyInvariants(r, d))
		ranges, err := Eval(d, inv)
		if err != nil {
			continue
		}
		for range 8 {
			state := anyState(r, inv)
			_, values, err := exact.Step(d, state, anyInputs(r, d))
			if err != nil {
				// A number between the ends may be longer than both of them.
				continue
			}
			checkValues(t, d, inv, ranges, state, values)
			seen++
		}
	}
	if seen < 1000 {
		t.Errorf("only %d ticks have short values", seen)
	}
}

// P12.2: with closed invariants, all values of all ticks are in the ranges.
func TestValuesStayInRanges(t *testing.T) {
	r := rand.New(rand.NewSource(13))
	seen := 0
	for _, d := range diagrams(14, api.MaxBlocks) {
		inv, err := Infer(d, 1+r.Intn(16))
		if err != nil {
			continue
		}
		ranges, err := Eval(d, inv)
		if err != nil {
			t.Fatalf("Eval(%v, %v): %v", d, texts(inv), err)
		}
		state, err := exact.Start(d)
		for range 20 {
			next, values, stepErr := exact.Step(d, state, anyInputs(r, d))
			if err != nil || stepErr != nil {
				break
			}
			checkValues(t, d, inv, ranges, state, values)
			state = next
			seen++
		}
	}
	if seen < 1000 {
		t.Errorf("only %d ticks have short values", seen)
	}
}

// The extremes of the ranges are reached by the filter, as far as ticks go.
func TestFilterNearsItsRange(t *testing.T) {
	inv, err := Infer(filter(), 3)
	checkTexts(t, "the filter", inv, err, "[-2, 2]")
	state, err := exact.Start(filter())
	for range 100 {
		if err != nil {
			t.Fatal(err)
		}
		state, _, err = exact.Step(filter(), state, []int{1})
	}
	// 2 - 2^-99
	if err != nil || dyadic.Cmp(state[0], dyadic.Sub(dyadic.Of(2), dyadic.Shift(dyadic.Of(1), -99))) != 0 || !interval.Contains(inv[0], state[0]) {
		t.Errorf("the filter is at %v, %v", state, err)
	}
}

// widened returns invariants that contain those of inv, some of them more than those.
func widened(r *rand.Rand, inv []span) []span {
	var wide []span
	for _, s := range inv {
		for range r.Intn(3) {
			more := anyNumber(r, 1+r.Intn(64))
			s = hullOf(s.lo, s.hi, more, new(big.Rat).Add(s.lo, more))
		}
		wide = append(wide, s)
	}
	return wide
}

// P12.3: wider invariants have wider ranges.
func TestWiderInvariantsHaveWiderRanges(t *testing.T) {
	r := rand.New(rand.NewSource(15))
	seen, wider := 0, 0
	for _, d := range diagrams(16, api.MaxBlocks) {
		inv := anyInvariants(r, d)
		wide := intervalsOf(widened(r, inv))
		ranges, err := Eval(d, intervalsOf(inv))
		wideRanges, wideErr := Eval(d, wide)
		if err != nil || wideErr != nil {
			continue
		}
		for i := range ranges {
			if !interval.Inside(ranges[i], wideRanges[i]) {
				t.Fatalf("block %d of %v has %v for %v, but %v for %v", i, d, interval.Text(ranges[i]), texts(intervalsOf(inv)), interval.Text(wideRanges[i]), texts(wide))
			}
			if !interval.Inside(wideRanges[i], ranges[i]) {
				wider++
			}
		}
		seen++
	}
	if seen < 200 || wider < 1000 {
		t.Errorf("%d diagrams have ranges, %d ranges get wider", seen, wider)
	}
}

// P12.3: what Infer returns is closed.
func TestInferredInvariantsAreClosed(t *testing.T) {
	r := rand.New(rand.NewSource(17))
	seen := 0
	for _, d := range diagrams(18, api.MaxBlocks) {
		for range 3 {
			inv, err := Infer(d, 1+r.Intn(16))
			if err != nil {
				continue
			}
			if is, err := Closed(d, inv); !is || err != nil || len(inv) != len(delaysOf(d)) {
				t.Fatalf("Closed(%v, %v) = %v, %v", d, texts(inv), is, err)
			}
			if len(inv) > 0 {
				seen++
			}
		}
	}
	if seen < 200 {
		t.Errorf("only %d diagrams with delays have invariants", seen)
	}
}

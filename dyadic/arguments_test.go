package dyadic

import (
	"slices"
	"testing"

	"commutator/api"
)

// P2.1 for arguments that are not valid, and for the memory of arguments and results.

// operation is a function with a number as its result and one or two numbers as its arguments.
type operation struct {
	name string
	of   func(a, b api.Dyadic) api.Dyadic
}

func first(a api.Dyadic, err error) api.Dyadic {
	return a
}

func operations() []operation {
	return []operation{
		{"Neg", func(a, b api.Dyadic) api.Dyadic { return Neg(a) }},
		{"Abs", func(a, b api.Dyadic) api.Dyadic { return Abs(a) }},
		{"Min", Min},
		{"Max", Max},
		{"Add", Add},
		{"Sub", Sub},
		{"Mul", Mul},
		{"Shift by 0", func(a, b api.Dyadic) api.Dyadic { return Shift(a, 0) }},
		{"Shift by 1", func(a, b api.Dyadic) api.Dyadic { return Shift(a, 1) }},
		{"Shift by -1", func(a, b api.Dyadic) api.Dyadic { return Shift(a, -1) }},
		{"Shift by 32", func(a, b api.Dyadic) api.Dyadic { return Shift(a, 32) }},
		{"Shift by -32", func(a, b api.Dyadic) api.Dyadic { return Shift(a, -32) }},
		{"Floor to 0", func(a, b api.Dyadic) api.Dyadic { return first(Floor(a, 0)) }},
		{"Floor to 200", func(a, b api.Dyadic) api.Dyadic { return first(Floor(a, 200)) }},
		{"Ceil to 0", func(a, b api.Dyadic) api.Dyadic { return first(Ceil(a, 0)) }},
		{"Ceil to 200", func(a, b api.Dyadic) api.Dyadic { return first(Ceil(a, 200)) }},
		{"Quo to 0", func(a, b api.Dyadic) api.Dyadic { return first(Quo(a, b, 0)) }},
		{"Quo to 200", func(a, b api.Dyadic) api.Dyadic { return first(Quo(a, b, 200)) }},
	}
}

func TestInvalidNumbersCountAsZero(t *testing.T) {
	zero := api.Dyadic{}
	for _, x := range invalid() {
		for _, b := range append(someNumbers(20), finest(true, 7), x) {
			valid := b
			if !Valid(b) {
				valid = zero
			}
			for _, op := range operations() {
				if got, want := op.of(x, b), op.of(zero, valid); !same(got, want) {
					t.Errorf("%s of %v and %v: %v, not %v", op.name, x, b, got, want)
				}
				if got, want := op.of(b, x), op.of(valid, zero); !same(got, want) {
					t.Errorf("%s of %v and %v: %v, not %v", op.name, b, x, got, want)
				}
			}
			if Cmp(x, b) != Cmp(zero, valid) || Cmp(b, x) != Cmp(valid, zero) {
				t.Errorf("Cmp of %v and %v", x, b)
			}
		}
		if n, ok := Int(x); n != 0 || !ok || Sign(x) != 0 || Bits(x) != 0 || Text(x) != "0" {
			t.Errorf("%v: Int %d, %v, Sign %d, Bits %d, Text %s", x, n, ok, Sign(x), Bits(x), Text(x))
		}
	}
}

// inside returns a whose words lie inside longer memory, and that memory.
func inside(a api.Dyadic) (api.Dyadic, []uint32) {
	const guard = 0xdeadbeef
	memory := slices.Concat([]uint32{guard, guard}, a.Words, []uint32{guard, guard, guard, guard})
	a.Words = memory[2 : 2+len(a.Words)]
	return a, memory
}

// fill overwrites the memory of a result, also what lies behind its words.
func fill(a api.Dyadic) {
	words := a.Words[:cap(a.Words)]
	for i := range words {
		words[i] = 0x55555555
	}
}

func TestMemoryOfOperations(t *testing.T) {
	for _, x := range append(someNumbers(40), invalid()...) {
		for _, y := range append(someNumbers(20), x) {
			a, memoryA := inside(x)
			b, memoryB := inside(y)
			beforeA, beforeB := slices.Clone(memoryA), slices.Clone(memoryB)
			for _, op := range operations() {
				result := op.of(a, b)
				if !slices.Equal(memoryA, beforeA) || !slices.Equal(memoryB, beforeB) {
					t.Fatalf("%s changes an argument of %v and %v", op.name, x, y)
				}
				fill(result)
				if !slices.Equal(memoryA, beforeA) || !slices.Equal(memoryB, beforeB) {
					t.Fatalf("the result of %s shares memory with %v or %v", op.name, x, y)
				}
			}
		}
	}
}

func TestMemoryOfQuestions(t *testing.T) {
	for _, x := range append(numbers(), invalid()...) {
		a, memory := inside(x)
		before := slices.Clone(memory)
		Valid(a)
		Sign(a)
		Cmp(a, Of(3))
		Cmp(Of(3), a)
		Int(a)
		Bits(a)
		Text(a)
		if !slices.Equal(memory, before) {
			t.Fatalf("an argument is changed: %v", x)
		}
	}
}

func TestMemoryOfNewNumbers(t *testing.T) {
	for range 2 {
		for _, a := range []api.Dyadic{Of(5), first(Make(5, 1)), first(Parse("5/2^1"))} {
			if len(a.Words) != 1 || a.Words[0] != 5 {
				t.Errorf("5 words: %v", a)
			}
			fill(a)
		}
	}
}

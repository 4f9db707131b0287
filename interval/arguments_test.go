package interval

import (
	"slices"
	"testing"

	"commutator/api"
	"commutator/dyadic"
)

// P3.1 for arguments that are not valid, and for the memory of arguments and results.

// operation is a function with an interval as its result, of one or two intervals and a number.
type operation struct {
	name string
	of   func(a, b api.Interval, x api.Dyadic) (api.Interval, error)
}

func always(f func(a, b api.Interval) api.Interval) func(a, b api.Interval, x api.Dyadic) (api.Interval, error) {
	return func(a, b api.Interval, x api.Dyadic) (api.Interval, error) { return f(a, b), nil }
}

func operations() []operation {
	return []operation{
		{"Neg", always(func(a, b api.Interval) api.Interval { return Neg(a) })},
		{"Abs", always(func(a, b api.Interval) api.Interval { return Abs(a) })},
		{"Add", always(Add)},
		{"Sub", always(Sub)},
		{"Mul", always(Mul)},
		{"Min", always(Min)},
		{"Max", always(Max)},
		{"Hull", always(Hull)},
		{"Meet", func(a, b api.Interval, x api.Dyadic) (api.Interval, error) { return Meet(a, b) }},
		{"Make", func(a, b api.Interval, x api.Dyadic) (api.Interval, error) { return Make(a.Lo, x) }},
		{"Make", func(a, b api.Interval, x api.Dyadic) (api.Interval, error) { return Make(x, x) }},
		{"Point", func(a, b api.Interval, x api.Dyadic) (api.Interval, error) { return Point(x), nil }},
		{"Scale", func(a, b api.Interval, x api.Dyadic) (api.Interval, error) { return Scale(a, x), nil }},
		{"Widen", func(a, b api.Interval, x api.Dyadic) (api.Interval, error) { return Widen(a, x) }},
		{"Clip", func(a, b api.Interval, x api.Dyadic) (api.Interval, error) { return Clip(a, b.Lo, x) }},
		{"Clip", func(a, b api.Interval, x api.Dyadic) (api.Interval, error) { return Clip(a, x, b.Hi) }},
		{"Round", func(a, b api.Interval, x api.Dyadic) (api.Interval, error) { return Round(a, 0) }},
		{"Round", func(a, b api.Interval, x api.Dyadic) (api.Interval, error) { return Round(a, 300) }},
	}
}

// intervalOperations are the operations that read the intervals as a whole, and not single ends of them.
func intervalOperations() []operation {
	return slices.DeleteFunc(operations(), func(op operation) bool {
		return op.name == "Make" || op.name == "Clip"
	})
}

func TestInvalidIntervalsCountAsZero(t *testing.T) {
	for _, bad := range invalid() {
		for _, b := range append(someIntervals(20), bad) {
			valid := b
			if !Valid(b) {
				valid = api.Interval{}
			}
			x := dyadic.Of(3)
			for _, op := range intervalOperations() {
				got, err := op.of(bad, b, x)
				want, wantErr := op.of(api.Interval{}, valid, x)
				if !same(got, want) || err != wantErr {
					t.Errorf("%s of %v and %v: %v, %v, not %v, %v", op.name, bad, b, got, err, want, wantErr)
				}
				got, err = op.of(b, bad, x)
				want, wantErr = op.of(valid, api.Interval{}, x)
				if !same(got, want) || err != wantErr {
					t.Errorf("%s of %v and %v: %v, %v, not %v, %v", op.name, b, bad, got, err, want, wantErr)
				}
			}
			if Inside(bad, b) != Inside(api.Interval{}, valid) || Inside(b, bad) != Inside(valid, api.Interval{}) {
				t.Errorf("Inside of %v and %v", bad, b)
			}
		}
	}
}

func TestQuestionsAboutInvalidIntervals(t *testing.T) {
	for _, bad := range invalid() {
		clipped, err := Clip(bad, dyadic.Of(2), dyadic.Of(7))
		expect(t, "Clip", clipped, Ints(2, 2), bad)
		if err != nil {
			t.Errorf("Clip of %v: %v", bad, err)
		}
		if !Contains(bad, dyadic.Of(0)) || Contains(bad, number(1, 9)) || Contains(bad, number(-1, 9)) {
			t.Errorf("Contains of %v", bad)
		}
		if len(Width(bad).Words) != 0 || len(Mag(bad).Words) != 0 || Text(bad) != "[0, 0]" {
			t.Errorf("%v: width %v, magnitude %v, text %s", bad, Width(bad), Mag(bad), Text(bad))
		}
	}
}

func TestInvalidNumbersCountAsZero(t *testing.T) {
	for _, bad := range invalidNumbers() {
		for _, a := range someIntervals(40) {
			for _, op := range operations() {
				got, err := op.of(a, a, bad)
				want, wantErr := op.of(a, a, api.Dyadic{})
				if !same(got, want) || err != wantErr {
					t.Errorf("%s of %v and %v: %v, %v, not %v, %v", op.name, a, bad, got, err, want, wantErr)
				}
			}
			if Contains(a, bad) != Contains(a, api.Dyadic{}) {
				t.Errorf("Contains of %v and %v", a, bad)
			}
		}
		got, err := Make(bad, dyadic.Of(4))
		expect(t, "Make", got, Ints(0, 4), bad)
		if err != nil {
			t.Errorf("Make of %v and 4: %v", bad, err)
		}
		got, err = Make(bad, dyadic.Of(-4))
		refuse(t, "Make", got, err, api.ErrRange, bad)
		got, err = Clip(Ints(-9, 9), bad, dyadic.Of(4))
		expect(t, "Clip", got, Ints(0, 4), bad)
		if err != nil {
			t.Errorf("Clip to %v..4: %v", bad, err)
		}
		got, err = Clip(Ints(-9, 9), dyadic.Of(4), bad)
		refuse(t, "Clip", got, err, api.ErrRange, bad)
	}
}

// memory is what lies around and in the words of numbers.
type memory [][]uint32

// guarded returns a with its words laid inside longer memory.
func (m *memory) guarded(a api.Dyadic) api.Dyadic {
	const guard = 0xdeadbeef
	words := slices.Concat([]uint32{guard, guard}, a.Words, []uint32{guard, guard, guard, guard})
	*m = append(*m, words)
	a.Words = words[2 : 2+len(a.Words)]
	return a
}

func (m *memory) interval(a api.Interval) api.Interval {
	return api.Interval{Lo: m.guarded(a.Lo), Hi: m.guarded(a.Hi)}
}

func (m memory) clone() memory {
	copies := make(memory, len(m))
	for i, words := range m {
		copies[i] = slices.Clone(words)
	}
	return copies
}

func (m memory) equal(other memory) bool {
	return slices.EqualFunc(m, other, slices.Equal[[]uint32])
}

// fill overwrites the memory of a number, also what lies behind its words.
func fill(a api.Dyadic) {
	words := a.Words[:cap(a.Words)]
	for i := range words {
		words[i] = 0x55555555
	}
}

func TestMemoryOfOperations(t *testing.T) {
	list := append(someIntervals(30), invalid()...)
	for _, plainA := range list {
		for _, plainB := range append(someIntervals(12), plainA) {
			var m memory
			a, b, x := m.interval(plainA), m.interval(plainB), m.guarded(dyadic.Abs(plainB.Hi))
			before := m.clone()
			for _, op := range operations() {
				got, _ := op.of(a, b, x)
				hi := slices.Clone(got.Hi.Words)
				fill(got.Lo)
				if !slices.Equal(hi, got.Hi.Words) {
					t.Fatalf("the ends of %s of %v and %v share memory", op.name, plainA, plainB)
				}
				fill(got.Hi)
				if !m.equal(before) {
					t.Fatalf("%s changes %v or %v, or shares memory with them", op.name, plainA, plainB)
				}
			}
		}
	}
}

func TestMemoryOfQuestions(t *testing.T) {
	for _, plain := range append(someIntervals(60), invalid()...) {
		var m memory
		a, b := m.interval(plain), m.interval(Ints(-4, 9))
		before := m.clone()
		Valid(a)
		Contains(a, b.Lo)
		Contains(b, a.Lo)
		Inside(a, b)
		Inside(b, a)
		Text(a)
		fill(Width(a))
		fill(Mag(a))
		if !m.equal(before) {
			t.Fatalf("%v is changed, or memory is shared with it", plain)
		}
	}
}

func TestMemoryOfInts(t *testing.T) {
	for range 2 {
		for _, a := range []api.Interval{Ints(5, 5), Ints(5, -6), Ints(-6, 5)} {
			if a.Hi.Words[0] != 5 {
				t.Errorf("the upper end 5: %v", a)
			}
			fill(a.Lo)
			if a.Hi.Words[0] != 5 {
				t.Error("the ends of Ints share memory")
			}
			fill(a.Hi)
		}
	}
}

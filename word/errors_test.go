package word

import (
	"math"
	"testing"

	"commutator/api"
)

// P1.1 for invalid arguments: the first error of the chapter's order, and zero values beside it.

// refuse reports an operation that does not return the error, or returns something else with it.
func refuse(t *testing.T, name string, got result, want error, args ...any) {
	t.Helper()
	compare(t, name, got, result{0, false, want}, args...)
}

var badModes = []int{math.MinInt, -1, 4, math.MaxInt}

func TestFormatsAreCheckedFirst(t *testing.T) {
	for _, f := range []api.Format{{}, {Bits: 1}, {Bits: 33}, {Bits: -8}, {Bits: 8, Scale: 65}, {Bits: 8, Scale: -65}, {Bits: math.MinInt, Scale: math.MaxInt}} {
		if lo, hi, err := Bounds(f); lo != 0 || hi != 0 || err != api.ErrRange {
			t.Errorf("Bounds(%v) = %d, %d, %v", f, lo, hi, err)
		}
		refuse(t, "Clip", got(Clip(f, 3)), api.ErrRange, f)
		refuse(t, "Add", got(Add(f, 0, 0)), api.ErrRange, f)
		refuse(t, "Sub", got(Sub(f, 0, 0)), api.ErrRange, f)
		refuse(t, "Mul", got(Mul(f, 0, 0, 0, 0)), api.ErrRange, f)
		refuse(t, "Dot of unequal lists", got(Dot(f, []int{0}, nil, 0, 0)), api.ErrRange, f)
		refuse(t, "Div by 0", got(Div(f, 0, 0, 0, 0)), api.ErrRange, f)
		refuse(t, "Convert from", got(Convert(f, api.Format{Bits: 8}, 0, 0)), api.ErrRange, f)
		refuse(t, "Convert to", got(Convert(api.Format{Bits: 8}, f, 0, 0)), api.ErrRange, f)
	}
}

func TestWordsAreChecked(t *testing.T) {
	for _, bits := range []int{2, 8, 31, 32} {
		f := format(bits)
		end := 1 << (bits - 1)
		for _, x := range []int{math.MinInt, -end - 1, end, math.MaxInt} {
			refuse(t, "Add", got(Add(f, x, 0)), api.ErrRange, f, x)
			refuse(t, "Add", got(Add(f, 0, x)), api.ErrRange, f, x)
			refuse(t, "Sub", got(Sub(f, x, 0)), api.ErrRange, f, x)
			refuse(t, "Sub", got(Sub(f, 0, x)), api.ErrRange, f, x)
			refuse(t, "Mul", got(Mul(f, x, 0, 62, 0)), api.ErrRange, f, x)
			refuse(t, "Mul", got(Mul(f, 0, x, 62, 0)), api.ErrRange, f, x)
			refuse(t, "Dot", got(Dot(f, []int{0, x}, []int{0, 0}, 62, 0)), api.ErrRange, f, x)
			refuse(t, "Dot", got(Dot(f, []int{0, 0}, []int{x, 0}, 62, 0)), api.ErrRange, f, x)
			refuse(t, "Div", got(Div(f, x, 1, 0, 0)), api.ErrRange, f, x)
			refuse(t, "Div", got(Div(f, 0, x, 0, 0)), api.ErrRange, f, x)
			refuse(t, "Convert", got(Convert(f, format(32), x, 0)), api.ErrRange, f, x)
		}
	}
}

func TestModesAreChecked(t *testing.T) {
	f := format(8)
	for _, mode := range badModes {
		if y, err := Shift(1<<62, -1, mode); y != 0 || err != api.ErrRange {
			t.Errorf("Shift by mode %d = %d, %v", mode, y, err)
		}
		refuse(t, "Mul", got(Mul(f, 0, 0, 0, mode)), api.ErrRange, mode)
		refuse(t, "Dot", got(Dot(f, nil, nil, 0, mode)), api.ErrRange, mode)
		refuse(t, "Div", got(Div(f, 0, 0, 0, mode)), api.ErrRange, mode)
		refuse(t, "Convert", got(Convert(f, f, 0, mode)), api.ErrRange, mode)
	}
}

func TestShiftsAreChecked(t *testing.T) {
	f := format(8)
	for _, n := range []int{math.MinInt, -64, -63, 63, 64, math.MaxInt} {
		if y, err := Shift(0, n, 0); y != 0 || err != api.ErrRange {
			t.Errorf("Shift by %d = %d, %v", n, y, err)
		}
	}
	for _, n := range []int{math.MinInt, -1, 63, math.MaxInt} {
		refuse(t, "Mul", got(Mul(f, 0, 0, n, 0)), api.ErrRange, n)
		refuse(t, "Dot", got(Dot(f, nil, nil, n, 0)), api.ErrRange, n)
		refuse(t, "Div by 0", got(Div(f, 0, 0, n, 0)), api.ErrRange, n)
	}
	refuse(t, "Div by 0", got(Div(f, 0, 0, 32, 0)), api.ErrRange)
}

func TestDotChecksShapeThenLengthThenRange(t *testing.T) {
	f := format(8)
	long, wrong := make([]int, MaxTerms+1), []int{128}
	refuse(t, "Dot", got(Dot(f, long, wrong, 63, 4)), api.ErrShape)
	refuse(t, "Dot", got(Dot(f, nil, wrong, 63, 4)), api.ErrShape)
	long[0] = 128
	refuse(t, "Dot", got(Dot(f, long, long, 63, 4)), api.ErrLarge)
	refuse(t, "Dot", got(Dot(f, wrong, wrong, 0, 0)), api.ErrRange)
}

func TestDivByZero(t *testing.T) {
	for _, a := range []int{-128, 0, 127} {
		refuse(t, "Div", got(Div(format(8), a, 0, 31, RoundEven)), api.ErrZero, a)
	}
}

func TestShiftOverflows(t *testing.T) {
	for _, c := range []struct{ x, n, want int }{
		{1, -62, 1 << 62}, {-2, -62, math.MinInt}, {0, -62, 0}, {math.MinInt, 0, math.MinInt}, {math.MaxInt, 0, math.MaxInt},
	} {
		if y, err := Shift(c.x, c.n, RoundEven); y != c.want || err != nil {
			t.Errorf("Shift(%d, %d) = %d, %v", c.x, c.n, y, err)
		}
	}
	for _, c := range [][2]int{{2, -62}, {4, -62}, {-3, -62}, {1 << 62, -1}, {-1<<62 - 1, -1}, {math.MaxInt, -62}, {math.MinInt, -1}} {
		if y, err := Shift(c[0], c[1], RoundFloor); y != 0 || err != api.ErrOverflow {
			t.Errorf("Shift(%d, %d) = %d, %v", c[0], c[1], y, err)
		}
	}
}

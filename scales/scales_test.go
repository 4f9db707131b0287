package scales

import (
	"math"
	"math/big"
	"math/rand"
	"slices"
	"testing"

	"commutator/api"
	"commutator/interval"
)

// P13.1: every function returns what is specified.

func checkChoose(t *testing.T, d api.Diagram, r []api.Interval) (wantErr error) {
	t.Helper()
	want, wantErr := chooseOf(r)
	if f, err := Choose(d, r); !slices.Equal(f, want) || err != wantErr {
		t.Fatalf("Choose(%v, %v) = %v, %v, not %v, %v", d, texts(r), f, err, want, wantErr)
	}
	want, wantErr = uniformOf(r)
	if f, err := Uniform(d, r); !slices.Equal(f, want) || err != wantErr {
		t.Fatalf("Uniform(%v, %v) = %v, %v, not %v, %v", d, texts(r), f, err, want, wantErr)
	}
	return wantErr
}

func checkFits(t *testing.T, d api.Diagram, r []api.Interval, f []int) bool {
	t.Helper()
	want := fitsOf(r, f)
	if is, err := Fits(d, r, f); is != want || err != nil {
		t.Fatalf("Fits(%v, %v, %v) = %v, %v, not %v", d, texts(r), f, is, err, want)
	}
	return want
}

func checkShifts(t *testing.T, d api.Diagram, f []int) int {
	t.Helper()
	want := shiftsOf(d, f)
	if n, err := Shifts(d, f); n != want || err != nil {
		t.Fatalf("Shifts(%v, %v) = %v, %v, not %v", d, f, n, err, want)
	}
	return want
}

func texts(list []api.Interval) []string {
	var s []string
	for _, a := range list {
		s = append(s, interval.Text(a))
	}
	return s
}

func TestExamples(t *testing.T) {
	r := []api.Interval{interval.Ints(-3, 5), interval.Ints(-1, 1)}
	if f, err := Choose(constants(2), r); !slices.Equal(f, []int{27, 30}) || err != nil {
		t.Errorf("Choose = %v, %v", f, err)
	}
	if f, err := Uniform(constants(2), r); !slices.Equal(f, []int{27, 27}) || err != nil {
		t.Errorf("Uniform = %v, %v", f, err)
	}
	r = append(r, interval.Ints(0, 1<<31))
	if f, err := Choose(constants(3), r); len(f) > 0 || err != api.ErrLarge {
		t.Errorf("Choose = %v, %v", f, err)
	}
	if f, err := Uniform(constants(3), r); len(f) > 0 || err != api.ErrLarge {
		t.Errorf("Uniform = %v, %v", f, err)
	}
}

func TestNoBlocks(t *testing.T) {
	for _, d := range []api.Diagram{{}, {Inputs: []api.Port{{Lo: 1, Hi: 2, Frac: 3}}}, {Blocks: []api.Block{}}} {
		for _, r := range [][]api.Interval{nil, {}} {
			checkChoose(t, d, r)
			for _, f := range [][]int{nil, {}} {
				if !checkFits(t, d, r, f) || checkShifts(t, d, f) != 0 {
					t.Errorf("%v does not fit", d)
				}
			}
		}
	}
}

// bounds returns ranges of the magnitude x.
func bounds(x *big.Rat) []api.Interval {
	least, most := dyadicOf(negOf(x)), dyadicOf(x)
	list := []api.Interval{{Lo: least, Hi: most}, {Lo: least}, {Hi: most}, {Lo: least, Hi: least}, {Lo: most, Hi: most}}
	for exp := 1; exp < 4; exp++ {
		part := shifted(x, -exp)
		list = append(list, api.Interval{Lo: least, Hi: dyadicOf(part)}, api.Interval{Lo: dyadicOf(negOf(part)), Hi: most})
	}
	return list
}

// tinies are numbers by which a magnitude is changed: up to half of it.
func tinies(x *big.Rat) []*big.Rat {
	var list []*big.Rat
	for _, exp := range []int{1, 2, 3, 5, 8, 16, 29, 30, 31, 32, 33, 60, 63, 64, 65, 100} {
		list = append(list, shifted(x, -exp))
	}
	return list
}

func plus(x, y *big.Rat) *big.Rat {
	return new(big.Rat).Add(x, y)
}

// checkScale looks whether all ranges of a magnitude have a scale, or none if it is -1, whichever block has them.
func checkScale(t *testing.T, x *big.Rat, want int) {
	t.Helper()
	for _, a := range bounds(x) {
		for i := range 3 {
			r := []api.Interval{{}, {}, {}}
			r[i] = a
			f, err := Choose(constants(3), r)
			wanted := []int{30, 30, 30}
			wanted[i] = want
			if want < 0 {
				if len(f) > 0 || err != api.ErrLarge {
					t.Errorf("%v: %v, %v", interval.Text(a), f, err)
				}
			} else if !slices.Equal(f, wanted) || err != nil {
				t.Errorf("%v: %v, %v, not %v", interval.Text(a), f, err, wanted)
			}
		}
	}
}

// 2^30 is the most that a scale may make of a magnitude.
func TestLimitsOfChoose(t *testing.T) {
	for want := 0; want <= 30; want++ {
		x := scaled(1, 30-want)
		checkScale(t, x, want)
		for _, tiny := range tinies(x) {
			checkScale(t, plus(x, tiny), want-1)
			if less := plus(x, negOf(tiny)); less.Cmp(shifted(x, -1)) > 0 {
				checkScale(t, less, want)
			}
		}
	}
	for exp := 31; exp < 200; exp += 13 {
		checkScale(t, scaled(1, exp), -1)
		checkScale(t, scaled(1, -exp), 30)
	}
	checkScale(t, new(big.Rat), 30)
}

// checkFit looks whether a magnitude fits a scale, whichever block has them.
func checkFit(t *testing.T, x *big.Rat, scale int, want bool) {
	t.Helper()
	for _, a := range bounds(x) {
		for i := range 3 {
			r, f := []api.Interval{{}, {}, {}}, []int{0, 30, 17}
			r[i], f[i] = a, scale
			if is, err := Fits(constants(3), r, f); is != want || err != nil {
				t.Errorf("%v with %d: %v, %v", interval.Text(a), scale, is, err)
			}
		}
	}
}

// 2^31 - 1 is the most that a scale that fits makes of a magnitude.
func TestLimitsOfFits(t *testing.T) {
	for f := 0; f <= 30; f++ {
		x := scaled(1<<31-1, -f)
		checkFit(t, x, f, true)
		checkFit(t, scaled(1<<31, -f), f, false)
		for _, tiny := range tinies(x) {
			checkFit(t, plus(x, tiny), f, false)
			checkFit(t, plus(x, negOf(tiny)), f, true)
		}
		checkFit(t, new(big.Rat), f, true)
	}
	for _, f := range []int{-1, -2, 31, 32, 63, 64, -64, 1 << 16, -1 << 16, 1<<16 + 5, 1 << 32, math.MinInt, math.MaxInt} {
		checkFit(t, new(big.Rat), f, false)
		checkFit(t, scaled(1, -100), f, false)
		checkFit(t, scaled(1, 0), f, false)
	}
}

// The finest numbers, and long ones.
func TestLongNumbers(t *testing.T) {
	finest := scaled(1, -api.MaxDen)
	for _, f := range []int{0, 1, 29, 30} {
		x := scaled(1, 30-f)
		checkScale(t, plus(x, shifted(finest, 3)), f-1)
		checkScale(t, plus(x, negOf(shifted(finest, 3))), f)
		x = scaled(1<<31-1, -f)
		checkFit(t, plus(x, shifted(finest, 3)), f, false)
		checkFit(t, plus(x, negOf(shifted(finest, 3))), f, true)
		checkFit(t, scaled(1, 100000), f, false)
	}
	checkScale(t, shifted(finest, 3), 30)
	checkScale(t, scaled(1, 100000), -1)
	for _, x := range []*big.Rat{finest, plus(scaled(1, 30), finest), plus(scaled(1<<31-1, 0), finest), plus(scaled(1, 0), negOf(finest))} {
		r := []api.Interval{{Lo: dyadicOf(negOf(x)), Hi: dyadicOf(x)}}
		checkChoose(t, constants(1), r)
		for f := -1; f <= 31; f++ {
			checkFits(t, constants(1), r, []int{f})
		}
	}
}

func TestShiftsOfEveryKind(t *testing.T) {
	for kind, n := range argsOf {
		b := api.Block{Kind: kind, Args: []int{1, 2}[:n]}
		d := api.Diagram{
			Inputs: []api.Port{{Frac: 1}, {Frac: 2}},
			Blocks: []api.Block{b, {Kind: api.BlockConst}, {Kind: api.BlockConst}},
		}
		for code := range 3 * 3 * 3 {
			f := []int{1 + code%3, 1 + code/3%3, 1 + code/9}
			want := 0
			for i := range n {
				other := f[i+1]
				if kind == api.BlockInput {
					other = 2
				}
				if f[0] != other {
					want++
				}
			}
			if got := checkShifts(t, d, f); got != want {
				t.Errorf("%v has %d shifts with %v, not %d", b, got, f, want)
			}
		}
	}
}

func TestShiftsOfArguments(t *testing.T) {
	d := sample()
	for _, c := range []struct {
		f    []int
		want int
	}{
		{[]int{2, 2, 2, 2, 2}, 0},
		{[]int{2, 2, 2, 2, 9}, 0},
		{[]int{3, 3, 3, 3, 3}, 1},
		{[]int{3, 2, 2, 2, 2}, 2},
		{[]int{2, 3, 2, 2, 2}, 2},
		{[]int{2, 2, 3, 2, 2}, 3},
		{[]int{2, 2, 2, 3, 2}, 2},
		{[]int{1, 2, 3, 4, 5}, 5},
		{[]int{0, 0, 0, 0, 0}, 1},
		{[]int{-1, -1, -1, -1, -1}, 1},
		{[]int{2, math.MaxInt, math.MinInt, math.MaxInt, 0}, 3},
		{[]int{2 + 1<<32, 2, 2, 2, 2}, 2},
	} {
		if got := checkShifts(t, d, c.f); got != c.want {
			t.Errorf("%v: %d shifts, not %d", c.f, got, c.want)
		}
	}
	// The same block may be both arguments, or the block itself.
	d = api.Diagram{Inputs: []api.Port{{Frac: 7}}, Blocks: []api.Block{
		{Kind: api.BlockMul, Args: []int{1, 1}}, {Kind: api.BlockDelay, Args: []int{1}}, {Kind: api.BlockInput, Args: []int{0}}, {Kind: api.BlockInput, Args: []int{0}},
	}}
	for _, c := range []struct {
		f    []int
		want int
	}{{[]int{1, 1, 7, 7}, 0}, {[]int{1, 2, 7, 7}, 2}, {[]int{2, 2, 2, 2}, 2}, {[]int{30, 0, 7, 0}, 3}} {
		if got := checkShifts(t, d, c.f); got != c.want {
			t.Errorf("%v: %d shifts, not %d", c.f, got, c.want)
		}
	}
}

func TestRandomDiagrams(t *testing.T) {
	r := rand.New(rand.NewSource(1))
	chosen, large, fitting, others, shifted := 0, 0, 0, 0, 0
	for _, d := range diagrams(2) {
		n := len(d.Blocks)
		ranges := anyRanges(r, n, anyBits(r))
		if checkChoose(t, d, ranges) == nil {
			chosen++
		} else {
			large++
		}
		for range 4 {
			f := anyScales(r, ranges)
			if checkFits(t, d, ranges, f) {
				fitting++
			} else {
				others++
			}
			shifted += checkShifts(t, d, f)
			checkShifts(t, d, slices.Repeat([]int{r.Intn(31)}, n))
		}
	}
	if chosen < 100 || large < 30 || fitting < 500 || others < 500 || shifted < 1000 {
		t.Errorf("%d choices, %d too large, %d scales fit, %d do not, %d shifts", chosen, large, fitting, others, shifted)
	}
}

package word

import (
	"math"
	"math/big"
	"math/rand"
	"slices"
	"testing"

	"commutator/api"
)

// P1.1: every function returns what is specified.

func TestCheck(t *testing.T) {
	for bits := -1; bits <= MaxBits+2; bits++ {
		for _, scale := range []int{math.MinInt, -65, -64, -1, 0, 64, 65, math.MaxInt} {
			var want error
			if bits < 2 || bits > 32 || scale < -64 || scale > 64 {
				want = api.ErrRange
			}
			if err := Check(api.Format{Bits: bits, Scale: scale}); err != want {
				t.Errorf("Check(%d, %d): %v", bits, scale, err)
			}
		}
	}
	for _, bits := range []int{math.MinInt, math.MaxInt} {
		if err := Check(api.Format{Bits: bits}); err != api.ErrRange {
			t.Errorf("Check(%d): %v", bits, err)
		}
	}
}

func TestBounds(t *testing.T) {
	for bits := 2; bits <= 32; bits++ {
		end := int(math.Pow(2, float64(bits-1)))
		if lo, hi, err := Bounds(format(bits)); lo != -end || hi != end-1 || err != nil {
			t.Errorf("Bounds of %d bits: %d, %d, %v", bits, lo, hi, err)
		}
	}
}

func TestClip(t *testing.T) {
	for bits := 2; bits <= 32; bits++ {
		f := format(bits)
		for _, x := range append(ints(), edges(f)...) {
			compare(t, "Clip", got(Clip(f, x)), want(f, ratOf(x), RoundFloor), f, x)
		}
	}
}

func TestShift(t *testing.T) {
	for _, x := range ints() {
		for n := -62; n <= 62; n++ {
			for _, mode := range modes {
				exact := rounded(scaled(ratOf(x), n), mode)
				y, err := Shift(x, n, mode)
				switch {
				case !exact.IsInt64() && (y != 0 || err != api.ErrOverflow):
					t.Fatalf("Shift(%d, %d, %d) = %d, %v, not an overflow", x, n, mode, y, err)
				case exact.IsInt64() && (int64(y) != exact.Int64() || err != nil):
					t.Fatalf("Shift(%d, %d, %d) = %d, %v, not %v", x, n, mode, y, err, exact)
				}
			}
		}
	}
}

func TestAddAndSub(t *testing.T) {
	for bits := 2; bits <= 32; bits++ {
		f := format(bits)
		list := edges(f)
		if bits <= 6 {
			list = words(f)
		}
		for _, a := range list {
			for _, b := range list {
				compare(t, "Add", got(Add(f, a, b)), want(f, ratOf(a+b), RoundFloor), f, a, b)
				compare(t, "Sub", got(Sub(f, a, b)), want(f, ratOf(a-b), RoundFloor), f, a, b)
			}
		}
	}
}

func TestMul(t *testing.T) {
	for bits := 2; bits <= 4; bits++ {
		checkMul(t, format(bits), words(format(bits)), []int{0, 1, 2, 3, 4, 5, 6, 7, 62})
	}
	for _, bits := range []int{8, 17, 31, 32} {
		checkMul(t, format(bits), edges(format(bits)), []int{0, 1, 7, 15, 16, 30, 31, 32, 33, 60, 61, 62})
	}
}

func checkMul(t *testing.T, f api.Format, list, shifts []int) {
	for _, a := range list {
		for _, b := range list {
			for _, n := range shifts {
				for _, mode := range modes {
					exact := scaled(product(a, b), n)
					compare(t, "Mul", got(Mul(f, a, b, n, mode)), want(f, exact, mode), f, a, b, n, mode)
				}
			}
		}
	}
}

func TestDiv(t *testing.T) {
	for bits := 2; bits <= 4; bits++ {
		checkDiv(t, format(bits), words(format(bits)), []int{0, 1, 2, 3, 4, 5, 31})
	}
	for _, bits := range []int{8, 17, 31, 32} {
		checkDiv(t, format(bits), edges(format(bits)), []int{0, 1, 2, 7, 15, 16, 29, 30, 31})
	}
}

func checkDiv(t *testing.T, f api.Format, list, shifts []int) {
	for _, a := range list {
		for _, b := range list {
			for _, n := range shifts {
				for _, mode := range modes {
					expected := result{0, false, api.ErrZero}
					if b != 0 {
						expected = want(f, quotient(a, b, n), mode)
					}
					compare(t, "Div", got(Div(f, a, b, n, mode)), expected, f, a, b, n, mode)
				}
			}
		}
	}
}

func TestDot(t *testing.T) {
	r := rand.New(rand.NewSource(2))
	for _, bits := range []int{2, 3, 8, 24, 31, 32} {
		f := format(bits)
		for _, length := range []int{0, 1, 2, 3, 4, 17, 255, 256} {
			for n := 0; n <= 62; n++ {
				a, b := randomWords(r, f, length), randomWords(r, f, length)
				exact := scaled(dotOf(a, b), n)
				for _, mode := range modes {
					compare(t, "Dot", got(Dot(f, a, b, n, mode)), want(f, exact, mode), f, a, b, n, mode)
				}
			}
		}
	}
}

// Sums of up to 2^70 in size, whose quotients go beyond int, end next to the ends of int, or are words.
func TestDotOfGreatSums(t *testing.T) {
	f := format(32)
	lo, hi := -1<<31, 1<<31-1
	for _, length := range []int{1, 2, 3, 4, 7, 8, 255, 256} {
		for _, pair := range [][2]int{{lo, lo}, {lo, hi}, {hi, hi}} {
			a, b := slices.Repeat(pair[:1], length), slices.Repeat(pair[1:], length)
			for last := -1; last <= 1; last++ {
				b[0] = min(max(pair[1]+last, lo), hi)
				checkGreatSum(t, f, a, b)
			}
		}
	}
}

func checkGreatSum(t *testing.T, f api.Format, a, b []int) {
	for n := 0; n <= 62; n++ {
		exact := scaled(dotOf(a, b), n)
		for _, mode := range modes {
			compare(t, "Dot", got(Dot(f, a, b, n, mode)), want(f, exact, mode), len(a), a[0], b[0], n, mode)
		}
	}
}

// Products that cancel exactly leave a small sum, of which only the sum is rounded: rounding each product would give another result.
func TestDotRoundsOnce(t *testing.T) {
	f := format(32)
	lo, hi := -1<<31, 1<<31-1
	a, b := []int{lo, hi, hi, 3}, []int{lo, lo, 1, 1}
	compare(t, "Dot", got(Dot(f, a, b, 1, RoundHalf)), want(f, scaled(dotOf(a, b), 1), RoundHalf))
	ones := slices.Repeat([]int{1}, 256)
	compare(t, "Dot", got(Dot(f, ones, ones, 9, RoundFloor)), result{0, false, nil})
	compare(t, "Dot", got(Dot(f, ones, ones, 9, RoundHalf)), result{1, false, nil})
	compare(t, "Dot", got(Dot(f, ones, ones, 9, RoundEven)), result{0, false, nil})
	compare(t, "Dot", got(Dot(f, []int{}, nil, 62, RoundEven)), result{0, false, nil})
}

// A quotient of 2^63 - 1/2 is the greatest whose floor is an int; rounding it up must not wrap around.
func TestDotNextToTheEndOfInt(t *testing.T) {
	f := format(32)
	lo, hi := -1<<31, 1<<31-1
	a := []int{lo, lo, lo, lo, hi, hi, -1}
	b := []int{lo, lo, lo, lo, 1, 1, 1}
	for _, c := range []struct {
		lasts [3]int
		n     int
	}{{[3]int{0, 0, 1}, 1}, {[3]int{0, 0, 3}, 1}, {[3]int{0, 0, 1}, 0}, {[3]int{0, 0, 0}, 0}, {[3]int{1, 1, 1}, 1}, {[3]int{0, 0, -1}, 1}} {
		copy(b[4:], c.lasts[:])
		for _, mode := range modes {
			exact := scaled(dotOf(a, b), c.n)
			compare(t, "Dot", got(Dot(f, a, b, c.n, mode)), want(f, exact, mode), a, b, c.n, mode)
		}
	}
}

func TestDotKeepsItsArguments(t *testing.T) {
	a, b := []int{3, -4, 5}, []int{6, 7, -8}
	Dot(format(8), a, b, 1, RoundEven)
	if !slices.Equal(a, []int{3, -4, 5}) || !slices.Equal(b, []int{6, 7, -8}) {
		t.Errorf("Dot changed its arguments: %v, %v", a, b)
	}
}

func TestConvert(t *testing.T) {
	for from := 2; from <= 5; from++ {
		for to := 2; to <= 5; to++ {
			checkConvert(t, from, to, words(format(from)))
		}
	}
	for _, from := range []int{8, 31, 32} {
		for _, to := range []int{2, 8, 31, 32} {
			checkConvert(t, from, to, edges(format(from)))
		}
	}
}

// checkConvert converts a list by all differences of two scales.
func checkConvert(t *testing.T, fromBits, toBits int, list []int) {
	for n := -2 * MaxScale; n <= 2*MaxScale; n++ {
		from := api.Format{Bits: fromBits, Scale: min(MaxScale, MaxScale+n)}
		to := api.Format{Bits: toBits, Scale: from.Scale - n}
		for _, x := range list {
			exact := scaled(ratOf(x), n)
			for _, mode := range modes {
				compare(t, "Convert", got(Convert(from, to, x, mode)), want(to, exact, mode), from, to, x, mode)
			}
		}
	}
}

func TestExamples(t *testing.T) {
	f := api.Format{Bits: 8}
	compare(t, "Mul", got(Mul(f, 7, 9, 4, RoundFloor)), result{3, false, nil})
	compare(t, "Mul", got(Mul(f, 7, 9, 4, RoundHalf)), result{4, false, nil})
	compare(t, "Add", got(Add(f, 100, 50)), result{127, true, nil})
	compare(t, "Div", got(Div(f, 1, 3, 6, RoundHalf)), result{21, false, nil})
	for _, c := range []struct {
		x    int
		want [4]int
	}{{-5, [4]int{-3, -2, -2, -2}}, {5, [4]int{2, 2, 3, 2}}} {
		for mode, y := range c.want {
			if have, err := Shift(c.x, 1, mode); have != y || err != nil {
				t.Errorf("Shift(%d, 1, %d) = %d, %v", c.x, mode, have, err)
			}
		}
	}
}

func TestReferenceRounds(t *testing.T) {
	for _, c := range []struct {
		num, den int64
		want     [4]int64
	}{{7, 2, [4]int64{3, 3, 4, 4}}, {-7, 2, [4]int64{-4, -3, -3, -4}}, {-1, 3, [4]int64{-1, 0, 0, 0}}, {-6, 2, [4]int64{-3, -3, -3, -3}}} {
		for _, mode := range modes {
			if y := rounded(big.NewRat(c.num, c.den), mode); y.Int64() != c.want[mode] {
				t.Errorf("%d/%d rounded by %d: %v", c.num, c.den, mode, y)
			}
		}
	}
}

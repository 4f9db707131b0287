package dyadic

import (
	"math"
	"math/big"
	"math/rand"
	"slices"
	"testing"

	"commutator/api"
)

// P2.1: every function returns what is specified.

func TestValid(t *testing.T) {
	for _, a := range invalid() {
		if Valid(a) {
			t.Errorf("%v is valid", a)
		}
	}
	for _, a := range slices.Concat(numbers(), fineNumbers()) {
		if !Valid(a) {
			t.Errorf("%v is not valid", a)
		}
	}
	for _, a := range []api.Dyadic{{}, {Words: []uint32{}}, {Words: []uint32{2}}, {Neg: true, Words: []uint32{0, 1}}, {Words: []uint32{1}, Den: api.MaxDen}, {Neg: true, Words: []uint32{1, 2}, Den: 1}} {
		if !Valid(a) {
			t.Errorf("%v is not valid", a)
		}
	}
}

func ints() []int {
	list := []int{0, 1, -1, 2, -2, 6, -12, 1000003, math.MinInt, math.MinInt + 1, math.MaxInt, math.MaxInt - 1}
	for n := 30; n <= 62; n++ {
		list = append(list, 1<<n, 1<<n-1, 1<<n+1, -1<<n, -1<<n-1, -1<<n+1)
	}
	return list
}

func TestOf(t *testing.T) {
	for _, n := range ints() {
		expect(t, "Of", Of(n), new(big.Rat).SetInt64(int64(n)), n)
	}
}

func TestMake(t *testing.T) {
	for _, n := range ints() {
		for _, den := range []int{0, 1, 2, 31, 32, 33, 61, 62, 63, 64, 65} {
			a, err := Make(n, den)
			accept(t, "Make", new(big.Rat).SetFrac(big.NewInt(int64(n)), power(den)), a, err, n, den)
		}
	}
	for _, n := range []int{0, 1, -12, math.MinInt, math.MaxInt} {
		a, err := Make(n, api.MaxDen)
		accept(t, "Make", new(big.Rat).SetFrac(big.NewInt(int64(n)), power(api.MaxDen)), a, err, n)
		for _, den := range []int{-1, math.MinInt, api.MaxDen + 1, math.MaxInt} {
			a, err := Make(n, den)
			refuse(t, "Make", a, err, api.ErrRange)
		}
	}
}

func TestOneNumber(t *testing.T) {
	for _, a := range slices.Concat(numbers(), fineNumbers()) {
		x := ratOf(a)
		expect(t, "Neg", Neg(a), new(big.Rat).Neg(x), a)
		expect(t, "Abs", Abs(a), new(big.Rat).Abs(x), a)
		if s := Sign(a); s != x.Sign() {
			t.Errorf("Sign(%v) is %d", a, s)
		}
		if n := Bits(a); n != x.Num().BitLen() {
			t.Errorf("Bits(%v) is %d", a, n)
		}
	}
}

func checkPair(t *testing.T, a, b api.Dyadic) {
	x, y := ratOf(a), ratOf(b)
	order := x.Cmp(y)
	if c := Cmp(a, b); c != order {
		t.Fatalf("Cmp of %v and %v is %d", a, b, c)
	}
	least, greatest := x, y
	if order > 0 {
		least, greatest = y, x
	}
	expect(t, "Min", Min(a, b), least, a, b)
	expect(t, "Max", Max(a, b), greatest, a, b)
	expect(t, "Add", Add(a, b), new(big.Rat).Add(x, y), a, b)
	expect(t, "Sub", Sub(a, b), new(big.Rat).Sub(x, y), a, b)
	expect(t, "Mul", Mul(a, b), new(big.Rat).Mul(x, y), a, b)
}

func TestTwoNumbers(t *testing.T) {
	list := someNumbers(150)
	for _, a := range list {
		for _, b := range list {
			checkPair(t, a, b)
		}
	}
	for _, a := range numbers() {
		checkPair(t, a, a)
		checkPair(t, a, formOf(new(big.Rat).Neg(ratOf(a))))
	}
}

// Sums that carry, and differences that borrow, through many words, and products of unequal length.
func TestLongNumbers(t *testing.T) {
	for _, n := range []int{128, 1000, 1024, 5000} {
		for _, k := range []int{0, 1, 31, 32, 33, 500} {
			most := new(big.Int).Sub(power(n), big.NewInt(1))
			a, b := fraction(most, 0), fraction(power(k), 0)
			checkPair(t, a, b)
			checkPair(t, b, a)
			checkPair(t, fraction(power(n), 0), fraction(new(big.Int).Neg(power(k)), 0))
			checkPair(t, a, fraction(most, n))
		}
	}
	r := rand.New(rand.NewSource(2))
	for range 300 {
		a := fraction(new(big.Int).Rand(r, power(r.Intn(3000))), r.Intn(2000))
		b := fraction(new(big.Int).Rand(r, power(r.Intn(3000))), r.Intn(2000))
		checkPair(t, a, b)
		checkPair(t, Neg(a), b)
	}
}

// Products below the finest grid are truncated toward 0.
func TestTwoFineNumbers(t *testing.T) {
	list := fineNumbers()
	for _, a := range list {
		for _, b := range list[:28] {
			checkPair(t, a, b)
		}
	}
	for _, x := range []struct {
		m    int
		want api.Dyadic
	}{{1, api.Dyadic{}}, {-1, api.Dyadic{}}, {3, finest(false, 1)}, {-3, finest(true, 1)}, {-7, finest(true, 3)},
		{5, api.Dyadic{Words: []uint32{1}, Den: api.MaxDen - 1}}, {-13, api.Dyadic{Neg: true, Words: []uint32{3}, Den: api.MaxDen - 1}}} {
		a, err := Make(x.m, api.MaxDen)
		half := api.Dyadic{Words: []uint32{1}, Den: 1}
		if got := Mul(a, half); err != nil || !same(got, x.want) {
			t.Errorf("half of %d on the finest grid: %v", x.m, got)
		}
		if got := Mul(half, a); !same(got, x.want) {
			t.Errorf("half of %d on the finest grid: %v", x.m, got)
		}
		if got := Shift(a, -1); !same(got, x.want) {
			t.Errorf("%d on the finest grid, shifted: %v", x.m, got)
		}
	}
}

func finest(neg bool, word uint32) api.Dyadic {
	return api.Dyadic{Neg: neg, Words: []uint32{word}, Den: api.MaxDen}
}

func shifted(x *big.Rat, n int) *big.Rat {
	n = min(max(n, -65536), 65536)
	if n < 0 {
		return new(big.Rat).Quo(x, new(big.Rat).SetInt(power(-n)))
	}
	return new(big.Rat).Mul(x, new(big.Rat).SetInt(power(n)))
}

func TestShift(t *testing.T) {
	for _, a := range someNumbers(120) {
		for _, n := range []int{0, 1, -1, 2, -2, 31, -31, 32, -32, 33, -33, 64, -64, 100, -100, 1000, -1000} {
			expect(t, "Shift", Shift(a, n), shifted(ratOf(a), n), a, n)
		}
	}
	for _, a := range slices.Concat(someNumbers(12), fineNumbers()[:40]) {
		for _, n := range []int{-1, 1, -33, 33, -65535, 65535, -65536, 65536, -65537, 65537, math.MinInt, math.MaxInt} {
			expect(t, "Shift", Shift(a, n), shifted(ratOf(a), n), a, n)
		}
	}
}

// There is no limit to the number of words.
func TestShiftBeyondTheFinestGrid(t *testing.T) {
	a := Of(3)
	for range 5 {
		a = Shift(a, math.MaxInt)
	}
	if a.Den != 0 || len(a.Words) != 5*2048+1 || Bits(a) != 5*65536+2 {
		t.Errorf("3 * 2^327680: %d words, %d bits", len(a.Words), Bits(a))
	}
	for range 6 {
		a = Shift(a, math.MinInt)
	}
	if want := (api.Dyadic{Words: []uint32{3}, Den: api.MaxDen}); !same(a, want) {
		t.Errorf("3 * 2^-65536: %v", a)
	}
}

var grids = []int{0, 1, 2, 3, 30, 31, 32, 33, 64, 65, 99, 100, 101, 400}

func TestFloorAndCeil(t *testing.T) {
	for _, a := range numbers() {
		for _, den := range grids {
			below, err := Floor(a, den)
			accept(t, "Floor", floorOf(ratOf(a), den), below, err, a, den)
			above, err := Ceil(a, den)
			accept(t, "Ceil", ceilOf(ratOf(a), den), above, err, a, den)
		}
	}
	for _, a := range fineNumbers() {
		for _, den := range []int{0, 32768, api.MaxDen - 1, api.MaxDen} {
			below, err := Floor(a, den)
			accept(t, "Floor", floorOf(ratOf(a), den), below, err, a, den)
			above, err := Ceil(a, den)
			accept(t, "Ceil", ceilOf(ratOf(a), den), above, err, a, den)
		}
	}
}

func TestGridsAreChecked(t *testing.T) {
	for _, den := range []int{-1, math.MinInt, api.MaxDen + 1, math.MaxInt} {
		for _, a := range append(invalid(), Of(0), Of(5), finest(true, 5)) {
			x, err := Floor(a, den)
			refuse(t, "Floor", x, err, api.ErrRange)
			x, err = Ceil(a, den)
			refuse(t, "Ceil", x, err, api.ErrRange)
			x, err = Quo(a, Of(3), den)
			refuse(t, "Quo", x, err, api.ErrRange)
			x, err = Quo(Of(3), a, den)
			refuse(t, "Quo by 0 on no grid", x, err, api.ErrRange)
		}
	}
}

func checkQuo(t *testing.T, a, b api.Dyadic, den int) {
	t.Helper()
	q, err := Quo(a, b, den)
	if Sign(b) == 0 {
		refuse(t, "Quo by 0", q, err, api.ErrZero)
		return
	}
	accept(t, "Quo", floorOf(new(big.Rat).Quo(ratOf(a), ratOf(b)), den), q, err, a, b, den)
}

func TestQuo(t *testing.T) {
	list := someNumbers(60)
	for _, a := range list {
		for _, b := range list {
			for _, den := range grids {
				checkQuo(t, a, b, den)
			}
		}
	}
	for _, a := range fineNumbers()[:30] {
		for _, b := range fineNumbers()[:12] {
			for _, den := range []int{0, 33, api.MaxDen - 1, api.MaxDen} {
				checkQuo(t, a, b, den)
			}
		}
	}
	for _, b := range invalid() {
		checkQuo(t, Of(1), b, 4)
	}
}

// Long division estimates each word of the quotient from the first words of both numbers; words next to the ends make the estimates bad.
func TestQuoOfEdgeWords(t *testing.T) {
	edges := []uint32{0, 1, 1<<31 - 1, 1 << 31, 1<<31 + 1, 1<<32 - 1}
	var dividends, divisors []api.Dyadic
	for i := range 6 * 6 * 6 * 6 * 6 {
		words := []uint32{edges[i%6], edges[i/6%6], edges[i/36%6], edges[i/216%6], edges[i/1296]}
		dividends = append(dividends, api.Dyadic{Words: trim(words)})
		if i < 216 && i > 0 {
			divisors = append(divisors, api.Dyadic{Words: trim(words)})
		}
	}
	for i, a := range dividends {
		for j, b := range divisors {
			if i%5 == j%5 {
				checkQuo(t, a, b, 0)
			}
		}
	}
}

func TestQuoOfLongNumbers(t *testing.T) {
	r := rand.New(rand.NewSource(3))
	for range 500 {
		a := fraction(new(big.Int).Rand(r, power(r.Intn(4000))), r.Intn(500))
		b := fraction(new(big.Int).Add(big.NewInt(1), new(big.Int).Rand(r, power(r.Intn(2000)))), r.Intn(500))
		den := r.Intn(300)
		checkQuo(t, a, b, den)
		checkQuo(t, Neg(a), b, den)
		if back := Mul(a, b); Sign(a) != 0 {
			checkQuo(t, back, a, 500)
			checkQuo(t, back, Neg(b), 500)
		}
	}
}

func TestInt(t *testing.T) {
	for _, a := range slices.Concat(numbers(), fineNumbers()) {
		x := ratOf(a)
		want, whole := 0, x.IsInt() && x.Num().IsInt64()
		if whole {
			want = int(x.Num().Int64())
		}
		if n, ok := Int(a); n != want || ok != whole {
			t.Errorf("Int(%v) = %d, %v", a, n, ok)
		}
	}
	for _, n := range ints() {
		if back, ok := Int(Of(n)); back != n || !ok {
			t.Errorf("Int(Of(%d)) = %d, %v", n, back, ok)
		}
	}
}

func TestExamples(t *testing.T) {
	a, err := Make(6, 2)
	if want := (api.Dyadic{Words: []uint32{3}, Den: 1}); err != nil || !same(a, want) {
		t.Errorf("6 / 4: %v, %v", a, err)
	}
	below, _ := Floor(Neg(a), 0)
	above, _ := Ceil(Neg(a), 0)
	if !same(below, Of(-2)) || !same(above, Of(-1)) {
		t.Errorf("-3/2 lies between %v and %v", below, above)
	}
	third, _ := Quo(Of(1), Of(3), 4)
	minus, _ := Quo(Of(-1), Of(3), 4)
	if Text(third) != "5/2^4" || Text(minus) != "-3/2^3" {
		t.Errorf("thirds: %s and %s", Text(third), Text(minus))
	}
	b, _ := Make(-5, 3)
	if s := Text(Add(a, b)); s != "7/2^3" {
		t.Errorf("3/2 - 5/8: %s", s)
	}
}

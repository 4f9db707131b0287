package dyadic

import (
	"math/big"
	"math/rand"
	"slices"
	"testing"

	"commutator/api"
)

// The functions of this file follow the words of the chapter with numbers of math/big, so that they share nothing with the package.

// ratOf returns the number that the fields of a stand for.
func ratOf(a api.Dyadic) *big.Rat {
	m := new(big.Int)
	for i := len(a.Words) - 1; i >= 0; i-- {
		m.Lsh(m, 32)
		m.Add(m, big.NewInt(int64(a.Words[i])))
	}
	if a.Neg {
		m.Neg(m)
	}
	return new(big.Rat).SetFrac(m, power(a.Den))
}

func power(n int) *big.Int {
	return new(big.Int).Lsh(big.NewInt(1), uint(n))
}

// formOf returns the valid form of x, which is an integer divided by a power of 2, or of x truncated toward 0 to a multiple of 2^-MaxDen.
func formOf(x *big.Rat) api.Dyadic {
	if x.Denom().BitLen() > api.MaxDen+1 {
		grid := new(big.Rat).SetInt(power(api.MaxDen))
		grid.Mul(grid, x)
		x = new(big.Rat).SetFrac(new(big.Int).Quo(grid.Num(), grid.Denom()), power(api.MaxDen))
	}
	a := api.Dyadic{Neg: x.Sign() < 0, Den: x.Denom().BitLen() - 1}
	rest := new(big.Int).Abs(x.Num())
	for rest.Sign() > 0 {
		a.Words = append(a.Words, uint32(rest.Uint64()))
		rest.Rsh(rest, 32)
	}
	return a
}

// floorOf returns the greatest multiple of 2^-den that is at most x.
func floorOf(x *big.Rat, den int) *big.Rat {
	times := new(big.Int).Mul(x.Num(), power(den))
	return new(big.Rat).SetFrac(times.Div(times, x.Denom()), power(den))
}

// ceilOf returns the least multiple of 2^-den that is at least x.
func ceilOf(x *big.Rat, den int) *big.Rat {
	below := floorOf(new(big.Rat).Neg(x), den)
	return below.Neg(below)
}

func same(a, b api.Dyadic) bool {
	return a.Neg == b.Neg && a.Den == b.Den && slices.Equal(a.Words, b.Words)
}

// expect reports a result that is not the valid form of the number.
func expect(t *testing.T, name string, got api.Dyadic, want *big.Rat, args ...any) {
	t.Helper()
	if !same(got, formOf(want)) {
		t.Fatalf("%s of %v is %v, not %v", name, args, got, formOf(want))
	}
}

// accept reports an error, or a result that is not the valid form of the number.
func accept(t *testing.T, name string, want *big.Rat, got api.Dyadic, err error, args ...any) {
	t.Helper()
	if err != nil {
		t.Fatalf("%s of %v: %v", name, args, err)
	}
	expect(t, name, got, want, args...)
}

// refuse reports a call that does not return the error, or returns something else with it.
func refuse(t *testing.T, name string, got api.Dyadic, err error, want error) {
	t.Helper()
	if !same(got, api.Dyadic{}) || err != want {
		t.Errorf("%s: %v, %v, not %v", name, got, err, want)
	}
}

// fraction returns m / 2^den in its valid form.
func fraction(m *big.Int, den int) api.Dyadic {
	return formOf(new(big.Rat).SetFrac(m, power(den)))
}

// integers are integers next to the ends of words and of ints, and some without a pattern.
func integers() []*big.Int {
	list := []*big.Int{new(big.Int)}
	add := func(m *big.Int) {
		list = append(list, m, new(big.Int).Neg(m))
	}
	for _, n := range []int{0, 1, 2, 31, 32, 33, 62, 63, 64, 65, 95, 96, 97} {
		for _, d := range []int64{-1, 0, 1} {
			add(new(big.Int).Add(power(n), big.NewInt(d)))
		}
	}
	r := rand.New(rand.NewSource(1))
	for _, length := range []int{3, 20, 40, 64, 100, 130, 250} {
		add(new(big.Int).Rand(r, power(length)))
	}
	return list
}

// numbers are the integers on some grids, each number once.
func numbers() []api.Dyadic {
	var list []api.Dyadic
	for _, m := range integers() {
		for _, den := range []int{0, 1, 2, 31, 32, 33, 64, 65, 100} {
			a := fraction(m, den)
			if !slices.ContainsFunc(list, func(b api.Dyadic) bool { return same(a, b) }) {
				list = append(list, a)
			}
		}
	}
	return list
}

// someNumbers are so few of the numbers that all pairs and triples of them can be tried.
func someNumbers(count int) []api.Dyadic {
	all := numbers()
	r := rand.New(rand.NewSource(int64(count)))
	list := []api.Dyadic{{}, fraction(big.NewInt(1), 0), fraction(big.NewInt(-1), 0), fraction(big.NewInt(-1), 1)}
	for len(list) < count {
		list = append(list, all[r.Intn(len(all))])
	}
	return list
}

// fineNumbers are numbers on the finest grids, and others that meet them.
func fineNumbers() []api.Dyadic {
	list := []api.Dyadic{{}}
	for _, m := range []int64{1, -1, 3, -3, 5, -7, 1<<32 + 1, -1<<33 - 3} {
		for _, den := range []int{0, 1, 33, 32767, 32768, 32769, api.MaxDen - 32, api.MaxDen - 1, api.MaxDen} {
			list = append(list, fraction(big.NewInt(m), den))
		}
	}
	return list
}

// invalid are all ways not to be valid.
func invalid() []api.Dyadic {
	return []api.Dyadic{
		{Words: []uint32{0}},
		{Words: []uint32{0, 0, 0}},
		{Words: []uint32{1, 0}},
		{Words: []uint32{5, 0}, Den: 1},
		{Neg: true},
		{Neg: true, Words: []uint32{}},
		{Neg: true, Words: []uint32{0}},
		{Neg: true, Den: 3},
		{Den: 1},
		{Den: -1},
		{Words: []uint32{}, Den: api.MaxDen},
		{Words: []uint32{1}, Den: -1},
		{Words: []uint32{1}, Den: -1 << 63},
		{Words: []uint32{1}, Den: api.MaxDen + 1},
		{Words: []uint32{1}, Den: 1<<63 - 1},
		{Words: []uint32{2}, Den: 1},
		{Words: []uint32{0, 1}, Den: 1},
		{Words: []uint32{4, 7}, Den: api.MaxDen, Neg: true},
	}
}

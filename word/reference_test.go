package word

import (
	"math"
	"math/big"
	"math/rand"
	"testing"

	"commutator/api"
)

// The functions of this file follow the words of the chapter with exact rational numbers, so that they share nothing with the package.

var modes = []int{RoundFloor, RoundZero, RoundHalf, RoundEven}

func ratOf(x int) *big.Rat {
	return new(big.Rat).SetInt64(int64(x))
}

func product(a, b int) *big.Rat {
	return new(big.Rat).Mul(ratOf(a), ratOf(b))
}

// scaled returns x * 2^-n.
func scaled(x *big.Rat, n int) *big.Rat {
	power := new(big.Rat).SetInt(new(big.Int).Lsh(big.NewInt(1), uint(max(n, -n))))
	if n < 0 {
		return new(big.Rat).Mul(x, power)
	}
	return new(big.Rat).Quo(x, power)
}

func quotient(a, b, n int) *big.Rat {
	return scaled(new(big.Rat).Quo(ratOf(a), ratOf(b)), -n)
}

func rounded(x *big.Rat, mode int) *big.Int {
	below := new(big.Int).Div(x.Num(), x.Denom())
	above := new(big.Int).Add(below, big.NewInt(1))
	down := new(big.Rat).Sub(x, new(big.Rat).SetInt(below))
	up := new(big.Rat).Sub(new(big.Rat).SetInt(above), x)
	switch {
	case mode == RoundFloor:
		return below
	case mode == RoundZero:
		return new(big.Int).Quo(x.Num(), x.Denom())
	case down.Cmp(up) < 0:
		return below
	case down.Cmp(up) > 0 || mode == RoundHalf:
		return above
	case below.Bit(0) == 0:
		return below
	}
	return above
}

func saturated(f api.Format, x *big.Int) (int, bool) {
	hi := new(big.Int).Lsh(big.NewInt(1), uint(f.Bits-1))
	lo := new(big.Int).Neg(hi)
	hi.Sub(hi, big.NewInt(1))
	switch {
	case x.Cmp(lo) < 0:
		return int(lo.Int64()), true
	case x.Cmp(hi) > 0:
		return int(hi.Int64()), true
	}
	return int(x.Int64()), false
}

// result is what an operation returns.
type result struct {
	y   int
	cut bool
	err error
}

func got(y int, cut bool, err error) result {
	return result{y, cut, err}
}

// want is the exact number, rounded, then saturated.
func want(f api.Format, exact *big.Rat, mode int) result {
	y, cut := saturated(f, rounded(exact, mode))
	return result{y, cut, nil}
}

func compare(t *testing.T, name string, got, want result, args ...any) {
	t.Helper()
	if got != want {
		t.Fatalf("%s%v = %v, not %v", name, args, got, want)
	}
}

// format is a format with a scale, which the operations of one format do not look at.
func format(bits int) api.Format {
	return api.Format{Bits: bits, Scale: bits - 40}
}

// words are all words of a format.
func words(f api.Format) []int {
	var list []int
	for x := -1 << (f.Bits - 1); x < 1<<(f.Bits-1); x++ {
		list = append(list, x)
	}
	return list
}

// edges are the words of a format next to its ends, to 0 and to powers of 2.
func edges(f api.Format) []int {
	lo, hi := -1<<(f.Bits-1), 1<<(f.Bits-1)-1
	list := []int{lo, lo + 1, -3, -2, -1, 0, 1, 2, 3, hi - 1, hi}
	for k := 4; k < f.Bits-1; k += 7 {
		list = append(list, -1<<k-1, -1<<k, 1<<k-1, 1<<k)
	}
	return keep(list, func(x int) bool { return lo <= x && x <= hi })
}

func keep(list []int, ok func(int) bool) []int {
	var kept []int
	for _, x := range list {
		if ok(x) {
			kept = append(kept, x)
		}
	}
	return kept
}

// ints are ints of all sizes, ascending: next to powers of 2, and some more.
func ints() []int {
	var list []int
	for k := 63; k >= 0; k-- {
		for _, d := range []int{-1, 0, 1} {
			list = append(list, -1<<k+d)
		}
	}
	r := rand.New(rand.NewSource(1))
	for range 200 {
		list = append(list, int(r.Uint64())>>r.Intn(64))
	}
	for k := range 63 {
		for _, d := range []int{-1, 0, 1} {
			list = append(list, 1<<k+d)
		}
	}
	return append(list, math.MaxInt-1, math.MaxInt)
}

// randomWords are n words, about half of them at the ends of the format.
func randomWords(r *rand.Rand, f api.Format, n int) []int {
	list := make([]int, n)
	for i := range list {
		switch r.Intn(4) {
		case 0:
			list[i] = -1 << (f.Bits - 1)
		case 1:
			list[i] = 1<<(f.Bits-1) - 1
		default:
			list[i] = int(r.Uint64()) >> (64 - f.Bits)
		}
	}
	return list
}

func dotOf(a, b []int) *big.Rat {
	sum := new(big.Rat)
	for i := range a {
		sum.Add(sum, product(a[i], b[i]))
	}
	return sum
}

package angle

import (
	"math"
	"math/big"
	"math/rand"
)

// The functions of this file follow the words of the chapter with integers of math/big, so that they share nothing with the package.

const turn, half, quarter = 65536, 32768, 16384

func integer(x int) *big.Int {
	return big.NewInt(int64(x))
}

func sumOf(a, b *big.Int) *big.Int {
	return new(big.Int).Add(a, b)
}

func productOf(a, b int) *big.Int {
	return new(big.Int).Mul(integer(a), integer(b))
}

func normOf(x *big.Int) int {
	return int(new(big.Int).Mod(x, integer(turn)).Int64())
}

func diffOf(a, b int) int {
	d := normOf(new(big.Int).Sub(integer(a), integer(b)))
	if d >= half {
		return d - turn
	}
	return d
}

func distOf(a, b int) int {
	if d := diffOf(a, b); d < 0 {
		return -d
	}
	return diffOf(a, b)
}

// withinOf goes upward from from, and reports whether a is met no later than to.
func withinOf(a, from, to int) bool {
	return waysUp(from, a) <= waysUp(from, to)
}

func waysUp(from, to int) int {
	way := normOf(integer(to)) - normOf(integer(from))
	if way < 0 {
		return way + turn
	}
	return way
}

func middleOf(list [3]int) (int, bool) {
	best, least := 0, math.MaxInt
	for i, x := range list {
		sum := 0
		for _, y := range list {
			if distOf(x, y) >= quarter {
				return 0, false
			}
			sum += distOf(x, y)
		}
		if sum < least {
			best, least = i, sum
		}
	}
	return normOf(integer(list[best])), true
}

func interpOf(a, b, num, den int) int {
	moved := productOf(diffOf(b, a), num)
	return normOf(sumOf(integer(a), moved.Quo(moved, integer(den))))
}

// ints are ints of all sizes, many of them next to multiples of a quarter turn.
func ints() []int {
	list := []int{math.MinInt, math.MinInt + 1, math.MaxInt - 1, math.MaxInt, 10922, 10923, 54613, 54614}
	for _, x := range []int{-5 * turn, -turn, -half, -quarter, 0, quarter, half, half + quarter, turn, 3*turn + quarter, 1 << 40, -1 << 56, 1 << 56, 1 << 62} {
		list = append(list, x-1, x, x+1)
	}
	r := rand.New(rand.NewSource(1))
	for range 40 {
		list = append(list, int(r.Uint64())>>r.Intn(64))
	}
	return list
}

// grid are normed angles all over the turn and next to multiples of a quarter turn.
func grid(step int) []int {
	list := []int{1, quarter - 1, quarter, quarter + 1, half - 1, half, half + 1, turn - quarter - 1, turn - quarter, turn - quarter + 1, turn - 1}
	for x := 0; x < turn; x += step {
		list = append(list, x)
	}
	return list
}

// near calls visit with triples of angles, most of them less than a quarter turn apart, at many places of the circle.
func near(visit func(a, b, c int)) {
	offsets := []int{-quarter - 1, -quarter, -quarter + 1, -8192, -2, -1, 0, 1, 2, 8191, 8192, quarter - 1, quarter, quarter + 1, half}
	for _, a := range append(grid(9973), math.MinInt, math.MaxInt, -7*turn) {
		for _, x := range offsets {
			for _, y := range offsets {
				visit(a, a+x, a+y+4*turn)
			}
		}
	}
	r := rand.New(rand.NewSource(2))
	for range 20000 {
		a := int(r.Uint64())
		visit(a, a+r.Intn(half)-quarter, a+r.Intn(half)-quarter)
	}
}

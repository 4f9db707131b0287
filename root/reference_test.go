package root

import (
	"math"
	"math/big"
	"math/rand"
	"slices"
)

// The functions of this file follow the words of the chapter with integers of math/big.

// most is the greatest absolute value that the functions for vectors take.
const most = 1 << 30

type vector struct{ x, y int }

func integer(x int) *big.Int {
	return big.NewInt(int64(x))
}

func squareOf(r int) *big.Int {
	return new(big.Int).Mul(integer(r), integer(r))
}

// lengthOf returns the square of the length of v.
func lengthOf(v vector) *big.Int {
	return new(big.Int).Add(squareOf(v.x), squareOf(v.y))
}

// floorOf returns the greatest r with r^2 <= n, for an n of at least 0.
func floorOf(n *big.Int) int {
	return int(new(big.Int).Sqrt(n).Int64())
}

// ceilOf returns the least r with r^2 >= n, for an n of at least 0.
func ceilOf(n *big.Int) int {
	r := floorOf(n)
	for squareOf(r).Cmp(n) < 0 {
		r++
	}
	return r
}

func withinOf(v vector, m int) bool {
	return lengthOf(v).Cmp(squareOf(m)) <= 0
}

// scaledOf returns what Scale returns without an error.
func scaledOf(v vector, m int) (vector, bool) {
	if withinOf(v, m) {
		return v, false
	}
	l := ceilOf(lengthOf(v))
	return vector{partOf(v.x, m, l), partOf(v.y, m, l)}, true
}

// partOf returns x * m / l, truncated toward 0.
func partOf(x, m, l int) int {
	product := new(big.Int).Mul(integer(x), integer(m))
	return int(product.Quo(product, integer(l)).Int64())
}

// roots are numbers of all sizes whose squares fit in an int, among them the greatest one.
func roots() []int {
	list := []int{0, 1, 2, 3, 10, 1000, 46340, 46341, 94906265, 94906266, 94906267, 3037000498, 3037000499}
	for n := range 31 {
		list = append(list, 1<<n-1, 1<<n, 1<<n+1, 3<<n/2)
	}
	r := rand.New(rand.NewSource(1))
	for range 2000 {
		list = append(list, int(r.Int63n(3037000500))>>r.Intn(31))
	}
	return list
}

// radicands are ints of at least 0 and of all sizes, many of them next to squares and halfway between two of them, in ascending order.
func radicands() []int {
	var list []int
	for _, r := range roots() {
		for _, n := range []int{r*r - 2, r*r - 1, r * r, r*r + 1, r*r + 2, r*r + r, r*r + r + 1} {
			// What is beyond the greatest int has wrapped around.
			if n >= 0 {
				list = append(list, n)
			}
		}
	}
	r := rand.New(rand.NewSource(2))
	for range 5000 {
		list = append(list, int(r.Int63())>>r.Intn(63))
	}
	for n := range 62 {
		list = append(list, 1<<n-1, 1<<n, 1<<n+1)
	}
	list = append(list, 1<<62, 1<<62+1, math.MaxInt-1, math.MaxInt)
	slices.Sort(list)
	return slices.Compact(list)
}

// sizes are coordinates of all sizes, among them the greatest ones.
func sizes() []int {
	list := []int{-7, -2, -1, 0, 1, 2, 3, 4, 12, 5, 46341, -65536, 1<<29 + 1, -1 << 29}
	return append(list, -most, 1-most, most-1, most)
}

// pairs are all vectors of these coordinates, and random ones of all lengths.
func pairs() []vector {
	var list []vector
	for _, x := range sizes() {
		for _, y := range sizes() {
			list = append(list, vector{x, y})
		}
	}
	r := rand.New(rand.NewSource(3))
	for range 2000 {
		list = append(list, vector{anySize(r), anySize(r)})
	}
	return list
}

// anySize returns a number from -most to most.
func anySize(r *rand.Rand) int {
	return (r.Intn(2*most+1) - most) >> r.Intn(31)
}

// grid are all vectors with coordinates from -n to n.
func grid(n int) []vector {
	var list []vector
	for x := -n; x <= n; x++ {
		for y := -n; y <= n; y++ {
			list = append(list, vector{x, y})
		}
	}
	return list
}

// limits are lengths of all sizes, among them those next to the length of v.
func limits(v vector) []int {
	l := floorOf(lengthOf(v))
	list := []int{0, 1, 2, 3, 100, 1 << 15, 1<<20 + 1, most - 1, most}
	for _, m := range []int{l / 1000, l / 3, l / 2, l - 2, l - 1, l, l + 1, l + 2} {
		if m >= 0 && m <= most {
			list = append(list, m)
		}
	}
	return list
}

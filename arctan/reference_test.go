package arctan

import (
	"math"
	"math/big"
	"math/rand"

	"commutator/sine"
)

// The functions of this file follow the words of the chapter with integers of math/big and a table of the directions of layer 6.

const turn, half, quarter = 65536, 32768, 16384

// maxLength is the greatest absolute value of a coordinate that is not halved.
const maxLength = 1 << 40

type vector struct{ x, y int }

// directions are the vectors (Cos(a), Sin(a)) of all angles.
var directions = func() (list [turn]vector) {
	for a := range list {
		list[a].x, list[a].y = sine.Both(a)
	}
	return list
}()

func integer(x int) *big.Int {
	return big.NewInt(int64(x))
}

// halvedOf returns the vector whose direction the functions take for that of v.
func halvedOf(v vector) vector {
	x, y := integer(v.x), integer(v.y)
	for x.CmpAbs(integer(maxLength)) > 0 || y.CmpAbs(integer(maxLength)) > 0 {
		x.Quo(x, integer(2))
		y.Quo(y, integer(2))
	}
	if x.Sign() == 0 && y.Sign() == 0 {
		return vector{1, 0}
	}
	return vector{int(x.Int64()), int(y.Int64())}
}

// quarterOf returns how many quarters lie before that of v, which is not (0, 0).
func quarterOf(v vector) int {
	switch {
	case v.x > 0 && v.y >= 0:
		return 0
	case v.x <= 0 && v.y > 0:
		return 1
	case v.x < 0 && v.y <= 0:
		return 2
	case v.x >= 0 && v.y < 0:
		return 3
	}
	panic("(0, 0) is in no quarter")
}

// crossOf is above 0 if w comes less than half a turn behind v, and below 0 if it comes less than half a turn before v.
func crossOf(v, w vector) *big.Int {
	a := new(big.Int).Mul(integer(v.x), integer(w.y))
	return a.Sub(a, new(big.Int).Mul(integer(v.y), integer(w.x)))
}

// angleOf goes down from the greatest angle of the first quarter to the first one that fits.
// Its products are below 2^56.
func angleOf(v vector) int {
	v = halvedOf(v)
	quarters := quarterOf(v)
	for range quarters {
		v.x, v.y = v.y, -v.x
	}
	for a := quarter - 1; ; a-- {
		if directions[a].x*v.y >= directions[a].y*v.x {
			return a + quarters*quarter
		}
	}
}

// turnOf returns the int from -half to half - 1 that is the same angle as a - b.
func turnOf(a, b int) int {
	switch d := a - b; {
	case d >= half:
		return d - turn
	case d < -half:
		return d + turn
	default:
		return d
	}
}

func compareOf(v, w vector) int {
	v, w = halvedOf(v), halvedOf(w)
	if p, q := quarterOf(v), quarterOf(w); p != q {
		return integer(p).Cmp(integer(q))
	}
	return -crossOf(v, w).Sign()
}

// coordinates are ints of all sizes, many of them next to those from which on vectors are halved.
func coordinates() []int {
	list := []int{math.MinInt, math.MinInt + 1, math.MaxInt - 1, math.MaxInt, -5, -2, -1, 0, 1, 2, 7, 32767, -32768}
	for _, x := range []int{maxLength, -maxLength, 2 * maxLength, -2 * maxLength, 1 << 55, -1 << 62} {
		list = append(list, x-1, x, x+1)
	}
	return list
}

// pairs are all vectors of these coordinates, and random ones of all lengths.
func pairs() []vector {
	var list []vector
	for _, x := range coordinates() {
		for _, y := range coordinates() {
			list = append(list, vector{x, y})
		}
	}
	r := rand.New(rand.NewSource(1))
	for range 2000 {
		list = append(list, vector{int(r.Uint64()) >> r.Intn(64), int(r.Uint64()) >> r.Intn(64)})
	}
	return list
}

// grid are all vectors with coordinates from -n to n, without (0, 0).
func grid(n int) []vector {
	var list []vector
	for x := -n; x <= n; x++ {
		for y := -n; y <= n; y++ {
			if x != 0 || y != 0 {
				list = append(list, vector{x, y})
			}
		}
	}
	return list
}

package curve

import (
	"math"
	"math/big"
	"math/rand"
	"slices"

	"commutator/api"
)

// The functions of this file follow the words of the chapter with fractions of math/big.

// most is the greatest absolute value of a coordinate.
const most = 1 << 30

func fraction(num, den int) *big.Rat {
	return big.NewRat(int64(num), int64(den))
}

// valueOf returns the value of a curve at x.
func valueOf(c api.Curve, x *big.Rat) *big.Rat {
	end := len(c.X) - 1
	if x.Cmp(fraction(c.X[0], 1)) <= 0 {
		return fraction(c.Y[0], 1)
	}
	for i := range end {
		if x.Cmp(fraction(c.X[i+1], 1)) <= 0 {
			line := new(big.Rat).Sub(x, fraction(c.X[i], 1))
			line.Mul(line, slopeOf(c, i))
			return line.Add(line, fraction(c.Y[i], 1))
		}
	}
	return fraction(c.Y[end], 1)
}

// slopeOf returns the slope of the segment from point i on.
func slopeOf(c api.Curve, i int) *big.Rat {
	return fraction(c.Y[i+1]-c.Y[i], c.X[i+1]-c.X[i])
}

// truncatedOf returns r, rounded toward 0.
func truncatedOf(r *big.Rat) int {
	return int(new(big.Int).Quo(r.Num(), r.Denom()).Int64())
}

// ceilOf returns the least integer that is at least r.
func ceilOf(r *big.Rat) int {
	n := int(new(big.Int).Div(r.Num(), r.Denom()).Int64())
	if fraction(n, 1).Cmp(r) < 0 {
		n++
	}
	return n
}

func atOf(c api.Curve, x int) int {
	return truncatedOf(valueOf(c, fraction(x, 1)))
}

// inverseOf looks for the first segment that reaches y, and for the place on it where At does:
// the value there is at least y, or, where y is not above 0, more than y - 1, as the rest is cut off.
func inverseOf(c api.Curve, y int) int {
	if c.Y[0] >= y {
		return c.X[0]
	}
	i := 0
	for c.Y[i+1] < y {
		i++
	}
	goal := y - c.Y[i]
	if y <= 0 {
		goal--
	}
	way := new(big.Rat).Quo(fraction(goal, 1), slopeOf(c, i))
	n := ceilOf(way)
	if y <= 0 && fraction(n, 1).Cmp(way) == 0 {
		n++
	}
	return c.X[i] + n
}

func steepestOf(c api.Curve, d int) int {
	greatest := new(big.Rat)
	for i := range len(c.X) - 1 {
		if s := slopeOf(c, i); s.Cmp(greatest) > 0 {
			greatest = s
		}
	}
	d = min(max(d, 0), 1<<31)
	return ceilOf(greatest.Mul(greatest, fraction(d, 1)))
}

// belowOf compares the values at all points of both curves, and halfway between any two of them that are neighbours.
func belowOf(a, b api.Curve) bool {
	places := append(slices.Clone(a.X), b.X...)
	slices.Sort(places)
	for i, x := range places {
		next := places[min(i+1, len(places)-1)]
		for _, place := range []*big.Rat{fraction(x, 1), fraction(x+next, 2)} {
			if valueOf(a, place).Cmp(valueOf(b, place)) > 0 {
				return false
			}
		}
	}
	return true
}

// scaledOf returns what Scale returns, and whether it is a curve.
func scaledOf(c api.Curve, num int) (api.Curve, bool) {
	scaled := api.Curve{X: slices.Clone(c.X)}
	for _, y := range c.Y {
		product := new(big.Rat).Mul(fraction(y, 1), fraction(num, 65536))
		part := truncatedOf(product)
		if part < -most || part > most {
			return api.Curve{}, false
		}
		scaled.Y = append(scaled.Y, part)
	}
	return scaled, true
}

func same(a, b api.Curve) bool {
	return slices.Equal(a.X, b.X) && slices.Equal(a.Y, b.Y)
}

func copied(c api.Curve) api.Curve {
	return api.Curve{X: slices.Clone(c.X), Y: slices.Clone(c.Y)}
}

func made() api.Curve {
	return api.Curve{X: []int{-10, 0, 4}, Y: []int{-5, 0, 6}}
}

// small are all curves of 2 and 3 points with coordinates from -2 to 2.
func small() []api.Curve {
	var list []api.Curve
	for x := range 125 {
		for y := range 125 {
			a, b, c := x/25-2, x/5%5-2, x%5-2
			k, l, m := y/25-2, y/5%5-2, y%5-2
			if a < b && b < c && k <= l && l <= m {
				list = append(list, api.Curve{X: []int{a, b, c}, Y: []int{k, l, m}})
			}
			if a == b && k == l && b < c && l <= m {
				list = append(list, api.Curve{X: []int{b, c}, Y: []int{l, m}})
			}
		}
	}
	return list
}

// extreme are curves with the greatest coordinates, distances and slopes.
func extreme() []api.Curve {
	return []api.Curve{
		{X: []int{-most, most}, Y: []int{-most, most}},
		{X: []int{-most, most}, Y: []int{most, most}},
		{X: []int{-most, most}, Y: []int{-most, -most}},
		{X: []int{-most, most}, Y: []int{-most, 1 - most}},
		{X: []int{-most, most}, Y: []int{most - 1, most}},
		{X: []int{-most, most}, Y: []int{-most, most - 1}},
		{X: []int{-most, most}, Y: []int{-1, 1}},
		{X: []int{-most, most}, Y: []int{0, 1}},
		{X: []int{-most, 1 - most}, Y: []int{-most, most}},
		{X: []int{most - 1, most}, Y: []int{-most, most}},
		{X: []int{0, 1}, Y: []int{-most, most}},
		{X: []int{-1, 0, 1}, Y: []int{-most, 0, most}},
		{X: []int{-most, most - 1, most}, Y: []int{-most, -most, most}},
		{X: []int{-most, 0, most}, Y: []int{-most, -1, 0}},
		{X: []int{-most, 0, 1, most}, Y: []int{-7, -7, 5, 5}},
	}
}

// curves are examples, extreme ones, and random ones of all sizes with 2 to 32 points.
func curves(seed int64) []api.Curve {
	r := rand.New(rand.NewSource(seed))
	list := append([]api.Curve{made()}, extreme()...)
	for points := 2; points <= MaxPoints; points++ {
		for range 12 {
			list = append(list, anyCurve(r, points))
		}
	}
	return list
}

func anyCurve(r *rand.Rand, points int) api.Curve {
	c := api.Curve{X: anyAscending(r, points), Y: make([]int, points)}
	bits := r.Intn(31)
	for i := range c.Y {
		c.Y[i] = anySize(r, bits)
	}
	slices.Sort(c.Y)
	return c
}

// anyAscending returns different numbers, some of them neighbours.
func anyAscending(r *rand.Rand, n int) []int {
	var list []int
	bits := 6 + r.Intn(25)
	for len(list) < n {
		x := anySize(r, bits)
		if len(list) > 0 && r.Intn(3) == 0 {
			x = min(list[r.Intn(len(list))]+1, most)
		}
		if !slices.Contains(list, x) {
			list = append(list, x)
		}
	}
	slices.Sort(list)
	return list
}

// anySize returns a number from -2^bits to 2^bits, for bits up to 30.
func anySize(r *rand.Rand, bits int) int {
	return r.Intn(2<<bits+1) - 1<<bits
}

// places are numbers of all sizes, among them those next to the points of c, in ascending order.
func places(c api.Curve) []int {
	return around(c.X)
}

// values are numbers of all sizes, among them those next to the values at the points of c, in ascending order.
func values(c api.Curve) []int {
	return around(c.Y)
}

func around(points []int) []int {
	list := []int{math.MinInt, math.MinInt + 1, -1 << 62, -1 << 32, -1 << 31, -1, 0, 1, 1 << 31, 1 << 32, 1 << 62, math.MaxInt}
	r := rand.New(rand.NewSource(int64(points[0])))
	for i, p := range points {
		list = append(list, p-2, p-1, p, p+1, p+2)
		if i > 0 {
			list = append(list, points[i-1]+r.Intn(p-points[i-1]+1), (p+points[i-1])/2)
		}
	}
	slices.Sort(list)
	return slices.Compact(list)
}

// halves are points of all sizes from which Odd makes a curve.
func halves(seed int64) []api.Curve {
	r := rand.New(rand.NewSource(seed))
	var list []api.Curve
	for n := 1; n <= 15; n++ {
		for range 12 {
			h := anyCurve(r, n)
			for i := range n {
				h.X[i], h.Y[i] = max(h.X[i], -h.X[i]), max(h.Y[i], -h.Y[i])
			}
			slices.Sort(h.X)
			slices.Sort(h.Y)
			if h.X[0] > 0 && len(slices.Compact(slices.Clone(h.X))) == n {
				list = append(list, h)
			}
		}
	}
	return list
}

// neighbours are curves that touch c, or pass it closely: with a point that is moved by 1, left out or inserted next to the line.
func neighbours(c api.Curve) []api.Curve {
	var list []api.Curve
	add := func(b api.Curve) {
		if Check(b) == nil {
			list = append(list, b)
		}
	}
	for i := range c.X {
		for _, by := range []int{-1, 1} {
			moved := copied(c)
			moved.Y[i] += by
			add(moved)
			shifted := copied(c)
			shifted.X[i] += by
			add(shifted)
		}
		short := copied(c)
		short.X, short.Y = slices.Delete(short.X, i, i+1), slices.Delete(short.Y, i, i+1)
		add(short)
	}
	for i := range len(c.X) - 1 {
		x := (c.X[i] + 3*c.X[i+1]) / 4
		for by := -1; by <= 1; by++ {
			long := copied(c)
			long.X, long.Y = slices.Insert(long.X, i+1, x), slices.Insert(long.Y, i+1, atOf(c, x)+by)
			add(long)
		}
	}
	return list
}

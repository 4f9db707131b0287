package arctan

import (
	"math"
	"math/rand"
	"slices"
	"testing"
)

// P7.2: the angle of a positive multiple of a direction is that of the direction.
// The multiples are those that are not halved, and those whose halves are exact.
func TestMultiplesOfDirections(t *testing.T) {
	for a, d := range directions {
		for _, k := range []int{1, 2, 3, 1000, 1<<25 - 1, 1 << 25, 1 << 26, 3 << 30, 12345 << 31, 1 << 47} {
			if b := Angle(k*d.x, k*d.y); b != a {
				t.Fatalf("of (%d, %d), which is %d times the direction of %d: %d", k*d.x, k*d.y, k, a, b)
			}
		}
	}
}

// P7.2: the vectors nearest to a direction have its angle, or the one before it.
func TestNextToDirections(t *testing.T) {
	const k = 1 << 24
	for a, d := range directions {
		if b := Angle(k*d.x-d.y, k*d.y+d.x); b != a {
			t.Fatalf("just behind the direction of %d: %d", a, b)
		}
		if b := Angle(k*d.x+d.y, k*d.y-d.x); b != normOf(a-1) {
			t.Fatalf("just before the direction of %d: %d", a, b)
		}
	}
}

func normOf(a int) int {
	return (a%turn + turn) % turn
}

// P7.2: a direction lies between those of its angle and of the next one.
func TestDirectionsLieBetween(t *testing.T) {
	for _, v := range slices.Concat(pairs(), grid(100)) {
		a := Angle(v.x, v.y)
		if a < 0 || a >= turn {
			t.Fatalf("Angle(%d, %d) = %d", v.x, v.y, a)
		}
		d, next, w := directions[a], directions[normOf(a+1)], halvedOf(v)
		if crossOf(d, w).Sign() < 0 || crossOf(w, next).Sign() <= 0 {
			t.Fatalf("Angle(%d, %d) = %d with the directions %v and %v", v.x, v.y, a, d, next)
		}
	}
}

// P7.3: Angle keeps the order of directions, and those that are the same have the same angle.
func TestOrder(t *testing.T) {
	for _, list := range [][]vector{pairs(), grid(60)} {
		slices.SortFunc(list, func(v, w vector) int { return Compare(v.x, v.y, w.x, w.y) })
		for i := 1; i < len(list); i++ {
			v, w := list[i-1], list[i]
			if compareOf(v, w) > 0 {
				t.Fatalf("%v is sorted before %v", v, w)
			}
			a, b := Angle(v.x, v.y), Angle(w.x, w.y)
			if a > b || a != b && Compare(v.x, v.y, w.x, w.y) == 0 {
				t.Fatalf("the angle of %v is %d, that of %v is %d", v, a, w, b)
			}
		}
	}
}

// P7.3: vectors of the same direction have the same angle.
func TestSameDirection(t *testing.T) {
	for _, v := range grid(15) {
		for _, k := range []int{2, 3, 17, 65537, 1 << 36, 7 << 50} {
			if a := Angle(k*v.x, k*v.y); a != Angle(v.x, v.y) {
				t.Fatalf("of %v: %d, of %d times as much: %d", v, Angle(v.x, v.y), k, a)
			}
			if o := Compare(k*v.x, k*v.y, v.x, v.y); o != 0 {
				t.Fatalf("%v and %d times as much: %d", v, k, o)
			}
			if a := Turn(k*v.x, k*v.y, v.x, v.y); a != 0 {
				t.Fatalf("from %v to %d times as much: %d", v, k, a)
			}
		}
	}
}

// P7.3: a quarter turn adds 16384, and (x, -y) has the negative angle or the one before it.
// The negative one has exactly the vectors whose direction is that of their angle.
func TestTurnedAndMirrored(t *testing.T) {
	for _, v := range slices.Concat(pairs(), grid(100)) {
		if v.x == math.MinInt || v.y == math.MinInt || v == (vector{}) {
			continue
		}
		a := Angle(v.x, v.y)
		if b := Angle(-v.y, v.x); b != normOf(a+quarter) {
			t.Fatalf("of %v: %d, a quarter turn on: %d", v, a, b)
		}
		mirrored := normOf(-a - 1)
		if crossOf(directions[a], halvedOf(v)).Sign() == 0 {
			mirrored = normOf(-a)
		}
		if b := Angle(v.x, -v.y); b != mirrored {
			t.Fatalf("of %v: %d, mirrored: %d", v, a, b)
		}
	}
}

// farthest returns the greatest distance of a direction of layer 6 from the exact one of its angle, in angle units.
func farthest() float64 {
	greatest := 0.0
	for a, d := range directions {
		e := math.Atan2(float64(d.y), float64(d.x))*half/math.Pi - float64(a)
		greatest = max(greatest, math.Abs(math.Remainder(e, turn)))
	}
	return greatest
}

// P7.4: the angle of a vector that is turned by an angle differs from its own by this angle, to within the rounding.
// An angle that is without its fraction and two directions of layer 6 that lie beside the exact ones take their part, as does the direction of the turn.
func TestAnglesAddUp(t *testing.T) {
	e := farthest()
	if e > 0.56 {
		t.Fatalf("a direction is %v units beside the exact one", e)
	}
	r := rand.New(rand.NewSource(2))
	for range 300000 {
		v := vector{r.Intn(1<<20) - 1<<19, r.Intn(1<<20) - 1<<19}
		v.x >>= r.Intn(16)
		v.y >>= r.Intn(16)
		a := r.Intn(turn)
		exact := turnedBy(v, a)
		checkSum(t, v, a, exact, 1+3*e)
		length := math.Hypot(float64(exact.x), float64(exact.y)) / half
		if rounded := (vector{exact.x / half, exact.y / half}); length > 2 {
			checkSum(t, v, a, rounded, 1+3*e+math.Asin(math.Sqrt2/length)*half/math.Pi)
		}
	}
}

// turnedBy returns v, turned by a and 32768 times as long: what layer 20 rounds.
func turnedBy(v vector, a int) vector {
	d := directions[a]
	return vector{d.x*v.x - d.y*v.y, d.y*v.x + d.x*v.y}
}

func checkSum(t *testing.T, v vector, a int, turned vector, bound float64) {
	t.Helper()
	if v == (vector{}) {
		return
	}
	d := turnOf(Angle(turned.x, turned.y), normOf(Angle(v.x, v.y)+a))
	if math.Abs(float64(d)) >= bound {
		t.Fatalf("of %v: %d, turned by %d: %v with %d", v, Angle(v.x, v.y), a, turned, Angle(turned.x, turned.y))
	}
	if b := Turn(turned.x, turned.y, v.x, v.y); b != turnOf(normOf(a+d), 0) {
		t.Fatalf("the turn from %v to %v is %d", v, turned, b)
	}
}

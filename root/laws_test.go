package root

import (
	"math/rand"
	"testing"
)

// P8.2: Sqrt(n)^2 <= n < (Sqrt(n) + 1)^2, and Up is Sqrt or one more, where Sqrt is too little.
func TestRootsEncloseNumbers(t *testing.T) {
	for _, n := range radicands() {
		r := Sqrt(n)
		if squareOf(r).Cmp(integer(n)) > 0 || squareOf(r+1).Cmp(integer(n)) <= 0 {
			t.Fatalf("Sqrt(%d) = %d", n, r)
		}
		u := Up(n)
		if u != r && u != r+1 || (u == r) != (squareOf(r).Cmp(integer(n)) == 0) {
			t.Fatalf("Up(%d) = %d, Sqrt of it is %d", n, u, r)
		}
	}
}

// P8.2: both roots are monotone, over all ints.
func TestRootsRise(t *testing.T) {
	list := append([]int{-1 << 63, -1 << 62, -5, -1}, radicands()...)
	for i := 1; i < len(list); i++ {
		m, n := list[i-1], list[i]
		if Sqrt(m) > Sqrt(n) || Up(m) > Up(n) {
			t.Fatalf("of %d: %d, %d, of %d: %d, %d", m, Sqrt(m), Up(m), n, Sqrt(n), Up(n))
		}
	}
}

// P8.3: what Scale returns is within m, and where it is scaled, less than 3 shorter than m; no sign changes, and a second time nothing does.
func TestScaledVectors(t *testing.T) {
	for _, v := range append(pairs(), grid(30)...) {
		for _, m := range limits(v) {
			checkScaled(t, v, m)
		}
	}
}

func checkScaled(t *testing.T, v vector, m int) {
	t.Helper()
	x, y, limited, err := Scale(v.x, v.y, m)
	w := vector{x, y}
	if err != nil || !withinOf(w, m) {
		t.Fatalf("%v, scaled to %d: %v, %v", v, m, w, err)
	}
	if !sameSign(v.x, x) || !sameSign(v.y, y) {
		t.Fatalf("%v, scaled to %d: %v with other signs", v, m, w)
	}
	if !limited && w != v {
		t.Fatalf("%v, not scaled to %d: %v", v, m, w)
	}
	if limited && m >= 3 && lengthOf(w).Cmp(squareOf(m-3)) <= 0 {
		t.Fatalf("%v, scaled to %d: %v is too short", v, m, w)
	}
	checkScale(t, w, m, w, false)
}

// sameSign reports whether y has the sign of x, or none.
func sameSign(x, y int) bool {
	return y == 0 || (x > 0) == (y > 0) && x != 0
}

// P8.4: a sum of two vectors is at most as long as Above of the two together.
func TestTriangles(t *testing.T) {
	r := rand.New(rand.NewSource(4))
	list := pairs()
	for _, v := range list {
		for range 20 {
			checkTriangle(t, v, list[r.Intn(len(list))])
		}
		checkTriangle(t, v, v)
	}
	for _, v := range grid(9) {
		for _, w := range grid(9) {
			checkTriangle(t, v, w)
		}
	}
}

func checkTriangle(t *testing.T, v, w vector) {
	t.Helper()
	bound := above(t, v) + above(t, w)
	sum := vector{v.x + w.x, v.y + w.y}
	if lengthOf(sum).Cmp(squareOf(bound)) > 0 {
		t.Fatalf("%v and %v are %d together, their sum is longer", v, w, bound)
	}
	if max(sum.x, -sum.x) <= most && max(sum.y, -sum.y) <= most && above(t, sum) > bound {
		t.Fatalf("%v and %v are %d together, their sum is %d", v, w, bound, above(t, sum))
	}
}

func above(t *testing.T, v vector) int {
	t.Helper()
	l, err := Above(v.x, v.y)
	if err != nil {
		t.Fatalf("Above(%d, %d): %v", v.x, v.y, err)
	}
	return l
}

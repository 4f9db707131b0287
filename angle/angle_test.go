package angle

import (
	"math"
	"math/rand"
	"testing"
)

// P5.1: every function returns what is specified.

func TestExamples(t *testing.T) {
	if d := Diff(10, 65530); d != 16 {
		t.Errorf("Diff(10, 65530) = %d", d)
	}
	if d := Diff(32768, 0); d != -32768 {
		t.Errorf("Diff(32768, 0) = %d", d)
	}
	if m, ok := Middle(65530, 10, 4); m != 4 || !ok {
		t.Errorf("Middle(65530, 10, 4) = %d, %v", m, ok)
	}
	if m, ok := Middle(0, 20000, 1); m != 0 || ok {
		t.Errorf("Middle(0, 20000, 1) = %d, %v", m, ok)
	}
	if m, ok := Middle(100, 105, 5000); m != 105 || !ok {
		t.Errorf("Middle(100, 105, 5000) = %d, %v", m, ok)
	}
	expect(t, 65534, "Interp")(Interp(65530, 10, 1, 4))
	expect(t, 131172, "Unwrap")(Unwrap(131000, 100))
	expect(t, 24463, "Electric")(Electric(30000, 3, -1))
}

// expect returns a function that reports another result than this one.
func expect(t *testing.T, want int, name string, args ...int) func(int, error) {
	t.Helper()
	return func(got int, err error) {
		t.Helper()
		if got != want || err != nil {
			t.Fatalf("%s%v = %d, %v, not %d", name, args, got, err, want)
		}
	}
}

func TestNorm(t *testing.T) {
	for x := range turn {
		for _, same := range []int{x, x - turn, x + turn, x + math.MinInt, x + (math.MaxInt + 1 - turn)} {
			if y := Norm(same); y != x {
				t.Fatalf("Norm(%d) = %d, not %d", same, y, x)
			}
		}
	}
	for _, x := range ints() {
		if y := Norm(x); y != normOf(integer(x)) {
			t.Errorf("Norm(%d) = %d", x, y)
		}
	}
}

func TestDiffAndDist(t *testing.T) {
	for a := range turn {
		checkDiff(t, a, 0)
		checkDiff(t, 0, a)
		checkDiff(t, a, 40000)
	}
	for _, a := range ints() {
		for _, b := range ints() {
			checkDiff(t, a, b)
		}
	}
}

func checkDiff(t *testing.T, a, b int) {
	t.Helper()
	if d := Diff(a, b); d != diffOf(a, b) {
		t.Fatalf("Diff(%d, %d) = %d, not %d", a, b, d, diffOf(a, b))
	}
	if d := Dist(a, b); d != distOf(a, b) {
		t.Fatalf("Dist(%d, %d) = %d, not %d", a, b, d, distOf(a, b))
	}
}

func TestWithin(t *testing.T) {
	list := grid(4099)
	for _, from := range list {
		for _, to := range append(list, from-1, from, from+1) {
			for _, a := range append(list, from-1, from, from+1, to-1, to, to+1) {
				if is := Within(a, from, to); is != withinOf(a, from, to) {
					t.Fatalf("Within(%d, %d, %d): %v", a, from, to, is)
				}
			}
		}
	}
	for _, from := range ints() {
		for _, to := range ints() {
			for _, a := range []int{from - 1, from, from + 1, to - 1, to, to + 1, 0} {
				if is := Within(a, from, to); is != withinOf(a, from, to) {
					t.Fatalf("Within(%d, %d, %d): %v", a, from, to, is)
				}
			}
		}
	}
}

func TestSector(t *testing.T) {
	for sector, first := range []int{0, 10923, 21846, 32768, 43691, 54614} {
		for x := first; x < turn; x++ {
			for _, same := range []int{x, x - turn, x + 5*turn, x + math.MinInt, x + (math.MaxInt + 1 - turn)} {
				if s := Sector(same); s < sector || x == first && s != sector || s > 5 {
					t.Fatalf("Sector(%d) = %d", same, s)
				}
			}
		}
		for x := range first {
			if s := Sector(x); s >= sector {
				t.Fatalf("Sector(%d) = %d", x, s)
			}
		}
	}
}

func TestMiddle(t *testing.T) {
	count := map[bool]int{}
	near(func(a, b, c int) {
		want, is := middleOf([3]int{a, b, c})
		if m, ok := Middle(a, b, c); m != want || ok != is {
			t.Fatalf("Middle(%d, %d, %d) = %d, %v, not %d, %v", a, b, c, m, ok, want, is)
		}
		count[is]++
	})
	if count[true] == 0 || count[false] == 0 {
		t.Errorf("%d triples are near and %d are not", count[true], count[false])
	}
}

func TestMiddleNeedsAllThreeNear(t *testing.T) {
	for _, c := range [][3]int{{0, 16383, 8000}, {16383, 0, 8000}, {8000, 0, 16383}, {0, 8000, 16383}, {65536, 0, -65536}} {
		if _, ok := Middle(c[0], c[1], c[2]); !ok {
			t.Errorf("Middle of %v has no result", c)
		}
	}
	for _, c := range [][3]int{{0, 16384, 8000}, {8000, 0, 16384}, {16384, 8000, 0}, {0, 49152, 57000}, {0, 0, 32768}, {0, 21845, 43690}} {
		if m, ok := Middle(c[0], c[1], c[2]); m != 0 || ok {
			t.Errorf("Middle of %v = %d, %v", c, m, ok)
		}
	}
}

func TestInterp(t *testing.T) {
	for _, a := range ints() {
		for _, b := range ints() {
			for _, den := range []int{1, 2, 3, 7, 1000, 1<<20 - 1, 1 << 20} {
				for _, num := range []int{0, 1, den / 3, den / 2, den - 1, den} {
					got, err := Interp(a, b, num, den)
					expect(t, interpOf(a, b, num, den), "Interp", a, b, num, den)(got, err)
				}
			}
		}
	}
}

func TestInterpTruncatesOnBothSides(t *testing.T) {
	for _, c := range [][5]int{{0, 5, 1, 2, 2}, {5, 0, 1, 2, 3}, {0, -1, 2, 3, 0}, {0, 1, 2, 3, 0}, {0, half, 1, 3, turn - 10922}, {half, 0, 1, 3, half - 10922}} {
		expect(t, c[4], "Interp", c[:4]...)(Interp(c[0], c[1], c[2], c[3]))
	}
}

func TestUnwrap(t *testing.T) {
	for _, p := range append(ints(), -1<<56, 1-1<<56, 1<<56-1, 1<<56) {
		if p < -1<<56 || p > 1<<56 {
			continue
		}
		for _, a := range append(ints(), p+half-1, p+half, p-half, p-half-1) {
			got, err := Unwrap(p, a)
			expect(t, p+diffOf(a, p), "Unwrap", p, a)(got, err)
		}
	}
}

func TestUnwrapAtTheEnds(t *testing.T) {
	for _, c := range [][3]int{{1 << 56, -1, 1<<56 - 1}, {1 << 56, half - 1, 1<<56 + half - 1}, {1 << 56, half, 1<<56 - half}, {-1 << 56, 5, -1<<56 + 5}, {-1 << 56, half, -1<<56 - half}} {
		expect(t, c[2], "Unwrap", c[0], c[1])(Unwrap(c[0], c[1]))
	}
}

func TestElectric(t *testing.T) {
	r := rand.New(rand.NewSource(3))
	list := []int{-1 << 56, 1<<56 - 1, 1 << 56}
	for range 300 {
		list = append(list, int(r.Uint64())>>(7+r.Intn(57)))
	}
	for _, p := range list {
		for pairs := 1; pairs <= 64; pairs++ {
			for _, offset := range []int{math.MinInt, -1, 0, 1, quarter, turn + 3, math.MaxInt, int(r.Uint64())} {
				want := normOf(sumOf(productOf(p, pairs), integer(offset)))
				expect(t, want, "Electric", p, pairs, offset)(Electric(p, pairs, offset))
			}
		}
	}
}

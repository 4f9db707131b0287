package matrix

import (
	"math/big"
	"strings"
	"testing"

	"commutator/api"
	"commutator/dyadic"
)

// P4.1: every function returns what is specified.

func TestExamples(t *testing.T) {
	a := read("1 2; 0 -1")
	power, err := Power(a, 2)
	expect(t, "Power", identityOf(2), power, err, a, 2)
	if norm, err := Norm(a); err != nil || dyadic.Text(norm) != "3" {
		t.Errorf("Norm: %v, %v", norm, err)
	}
	y, err := Apply(a, of([]int{3, 1})[0])
	expect(t, "Apply", fractionsOf(read("5 -1")), matrix{y}, err, a)
	if s, err := Text(a); err != nil || s != "1 2; 0 -1" {
		t.Errorf("Text: %q, %v", s, err)
	}
}

func TestLimits(t *testing.T) {
	if MaxSize != 8 || MaxPower != 64 {
		t.Errorf("the limits %d and %d", MaxSize, MaxPower)
	}
}

func TestIdentity(t *testing.T) {
	for n := 1; n <= MaxSize; n++ {
		a, err := Identity(n)
		expect(t, "Identity", identityOf(n), a, err, n)
	}
}

func TestFunctionsOfOneMatrix(t *testing.T) {
	g := newGenerator(1)
	for rows := 1; rows <= MaxSize; rows++ {
		for columns := 1; columns <= MaxSize; columns++ {
			for range 6 {
				checkFunctionsOfOne(t, g.matrix(rows, columns), g.vector(columns))
			}
		}
	}
}

func checkFunctionsOfOne(t *testing.T, a matrix, x []api.Dyadic) {
	t.Helper()
	if err := Check(a); err != nil {
		t.Fatalf("Check of %v: %v", a, err)
	}
	want := fractionsOf(a)
	sizes, err := Abs(a)
	expect(t, "Abs", sizesOf(want), sizes, err, a)
	norm, err := Norm(a)
	expect(t, "Norm", fractions{{normOf(want)}}, matrix{{norm}}, err, a)
	y, err := Apply(a, x)
	expect(t, "Apply", productOf(want, fractionsOf(column(x))), column(y), err, a, x)
	if s, err := Text(a); err != nil || s != textOf(a) || !equal(read(s), a) {
		t.Fatalf("Text of %v: %q, %v", a, s, err)
	}
}

func textOf(a matrix) string {
	text := ""
	for i, row := range a {
		for j, x := range row {
			switch {
			case j > 0:
				text += " "
			case i > 0:
				text += "; "
			}
			text += dyadic.Text(x)
		}
	}
	return text
}

func TestFunctionsOfTwoMatrices(t *testing.T) {
	g := newGenerator(2)
	for rows := 1; rows <= MaxSize; rows++ {
		for columns := 1; columns <= MaxSize; columns++ {
			a, b, c := g.matrix(rows, columns), g.matrix(rows, columns), g.matrix(columns, g.size())
			sum, err := Add(a, b)
			expect(t, "Add", sumOf(fractionsOf(a), fractionsOf(b)), sum, err, a, b)
			product, err := Mul(a, c)
			expect(t, "Mul", productOf(fractionsOf(a), fractionsOf(c)), product, err, a, c)
		}
	}
}

func TestPower(t *testing.T) {
	g := newGenerator(3)
	for n := 1; n <= MaxSize; n++ {
		a := g.matrix(n, n)
		want := identityOf(n)
		for k := range 9 {
			power, err := Power(a, k)
			expect(t, "Power", want, power, err, a, k)
			want = productOf(want, fractionsOf(a))
		}
	}
}

func TestGreatestPower(t *testing.T) {
	fibonacci, err := Power(read("1 1; 1 0"), MaxPower)
	expect(t, "Power", fractionsOf(read("17167680177565 10610209857723; 10610209857723 6557470319842")), fibonacci, err)
	third := big.NewRat(-3, 1<<10)
	want := big.NewRat(1, 1)
	for range MaxPower {
		want.Mul(want, third)
	}
	power, err := Power(read("-3/2^10"), MaxPower)
	expect(t, "Power", fractions{{want}}, power, err)
}

func TestLe(t *testing.T) {
	g := newGenerator(4)
	for range 400 {
		a := g.matrix(g.size(), g.size())
		b := g.matrix(len(a), len(a[0]))
		checkLe(t, a, b)
		checkLe(t, b, a)
		checkLe(t, a, a)
		raised := filled(len(a), len(a[0]), func(i, j int) api.Dyadic { return dyadic.Max(a[i][j], b[i][j]) })
		checkLe(t, a, raised)
		row, column := g.Intn(len(a)), g.Intn(len(a[0]))
		raised[row][column] = dyadic.Sub(a[row][column], dyadic.Shift(dyadic.Of(1), -200))
		checkLe(t, a, raised)
		checkLe(t, raised, a)
	}
}

func checkLe(t *testing.T, a, b matrix) {
	t.Helper()
	if is, err := Le(a, b); err != nil || is != isAtMost(fractionsOf(a), fractionsOf(b)) {
		t.Fatalf("Le of %v and %v: %v, %v", a, b, is, err)
	}
}

// One element that is too great, wherever it lies, is found.
func TestLeComparesAllElements(t *testing.T) {
	for i := range MaxSize {
		for j := range MaxSize {
			zeros := filled(MaxSize, MaxSize, func(i, j int) api.Dyadic { return api.Dyadic{} })
			one := filled(MaxSize, MaxSize, func(row, column int) api.Dyadic {
				if row == i && column == j {
					return dyadic.Of(1)
				}
				return api.Dyadic{}
			})
			above, err := Le(one, zeros)
			below, errBelow := Le(zeros, one)
			if above || !below || err != nil || errBelow != nil {
				t.Errorf("Le with 1 in row %d and column %d: %v, %v, %v, %v", i, j, above, err, below, errBelow)
			}
		}
	}
}

// The greatest row, the sign of its elements and the other rows are of no concern to each other.
func TestNormTakesTheGreatestRow(t *testing.T) {
	for s, want := range map[string]string{
		"0":               "0",
		"-7/2^3":          "7/2^3",
		"1 2 -3; 4 0 1":   "6",
		"1 2 -3; -4 0 -3": "7",
		"0 0; 0 -1; 0 0":  "1",
		"-5 5; 9 0; 0 9":  "10",
		"1/2^1 1/2^2; 0 0; 1/2^4 1/2^1; 5/2^3 5/2^3": "5/2^2",
	} {
		if norm, err := Norm(read(s)); err != nil || dyadic.Text(norm) != want {
			t.Errorf("Norm of %s: %s, %v, not %s", s, dyadic.Text(norm), err, want)
		}
	}
}

func TestText(t *testing.T) {
	for _, s := range []string{
		"0", "-1", "1 -2", "1; -2", "3/2^1 0; 0 -1/2^65536", "18446744073709551616 1; 2 3; 4 5",
		strings.TrimSuffix(strings.Repeat("1 2 3 4 5 6 7 -8; ", 8), "; "),
	} {
		if text, err := Text(read(s)); err != nil || text != s {
			t.Errorf("Text of %s: %q, %v", s, text, err)
		}
	}
}

// A product of two numbers that would need a Den above MaxDen is truncated toward 0.
func TestProductsAreTruncated(t *testing.T) {
	for _, c := range []struct{ a, b, want string }{
		{"1/2^40000", "1/2^40000", "0"},
		{"-1/2^40000", "1/2^40000", "0"},
		{"-3/2^65536", "1/2^1", "-1/2^65536"},
		{"3/2^65536 1", "1/2^1; 1/2^65535", "3/2^65536"},
		{"1/2^32768", "-1/2^32768", "-1/2^65536"},
	} {
		a, b, want := read(c.a), read(c.b), fractionsOf(read(c.want))
		product, err := Mul(a, b)
		expect(t, "Mul", want, product, err, c.a, c.b)
		y, err := Apply(a, transposed(b)[0])
		expect(t, "Apply", want, matrix{y}, err, c.a, c.b)
	}
	fine := read("-1/2^30000")
	power, err := Power(fine, 2)
	expect(t, "Power", fractionsOf(read("1/2^60000")), power, err)
	for k := 3; k <= MaxPower; k++ {
		power, err = Power(fine, k)
		expect(t, "Power", fractions{{new(big.Rat)}}, power, err, k)
	}
}

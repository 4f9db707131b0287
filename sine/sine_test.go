package sine

import (
	"math"
	"slices"
	"testing"
)

// P6.1: every function returns what is specified.

func TestExamples(t *testing.T) {
	for _, c := range []struct {
		name      string
		f         func(int) int
		a, result int
	}{
		{"Sin", Sin, 0, 0},
		{"Sin", Sin, 256, 804},
		{"Sin", Sin, 128, 402},
		{"Cos", Cos, 128, 32763},
		{"Sin", Sin, 8192, 23170},
		{"Cos", Cos, 8192, 23170},
		{"Sin", Sin, 16384, 32768},
		{"Cos", Cos, 32768, -32768},
		{"Sin", Sin, -1, -3},
	} {
		if x := c.f(c.a); x != c.result {
			t.Errorf("%s(%d) = %d, not %d", c.name, c.a, x, c.result)
		}
	}
}

// The whole values here have fractions on both sides of one half, and of both signs: all of them are truncated toward 0.
func TestValuesAreTruncated(t *testing.T) {
	for _, c := range []struct{ a, cos, sin int }{
		{1, 32767, 3},          // 32767.96, 3.14
		{25, 32767, 78},        // 32767.02, 78.52
		{26, 32766, 81},        // 32766.98, 81.66
		{16383, 3, 32767},      // 3.14, 32767.96
		{16385, -3, 32767},     // -3.14, 32767.96
		{32767, -32767, 3},     // -32767.96, 3.14
		{32769, -32767, -3},    // -32767.96, -3.14
		{49151, -3, -32767},    // -3.14, -32767.96
		{49153, 3, -32767},     // 3.14, -32767.96
		{65510, 32766, -81},    // 32766.98, -81.66
		{65535, 32767, -3},     // 32767.96, -3.14
		{8193, 23167, 23172},   // 23167.75, 23172.20
		{-8193, 23167, -23172}, // 23167.75, -23172.20
	} {
		if cos, sin := Both(c.a); cos != c.cos || sin != c.sin {
			t.Errorf("Both(%d) = %d, %d, not %d, %d", c.a, cos, sin, c.cos, c.sin)
		}
	}
}

func TestTable(t *testing.T) {
	if list := Table(); !slices.Equal(list, listedTable(t)) || len(list) != 65 {
		t.Errorf("Table() = %v", list)
	}
}

func TestTableHoldsTheExactSinesWithoutTheirFractions(t *testing.T) {
	for k, x := range Table() {
		exact := exactSize(256 * k)
		if x != int(math.Floor(exact)) {
			t.Errorf("T[%d] = %d, not %v", k, x, exact)
		}
		if near := math.Abs(exact - math.Round(exact)); k%64 != 0 && near < 1e-6 {
			t.Errorf("T[%d]: %v is too near to an integer to be told by a float", k, exact)
		}
	}
}

func TestTableIsANewListEachTime(t *testing.T) {
	first, second := Table(), Table()
	for k := range first {
		first[k] = -7
	}
	if !slices.Equal(second, listedTable(t)) || !slices.Equal(Table(), listedTable(t)) {
		t.Errorf("a change of one list changes others: %v, %v", second, Table())
	}
	checkBoth(t, listedTable(t), 300)
}

func TestAllAngles(t *testing.T) {
	table := listedTable(t)
	for a := range turn {
		checkBoth(t, table, a)
	}
}

func TestAnglesAreModuloATurn(t *testing.T) {
	for a := range turn {
		cos, sin := Both(a)
		for _, turns := range []int{-1 << 47, -1 << 16, -2, -1, 1, 2, 1 << 16, 1<<47 - 1} {
			if c, s := Both(a + turns*turn); c != cos || s != sin {
				t.Fatalf("Both(%d) = %d, %d, not %d, %d as of %d", a+turns*turn, c, s, cos, sin, a)
			}
		}
	}
}

func TestIntsOfAllSizes(t *testing.T) {
	table := listedTable(t)
	for _, a := range ints() {
		checkBoth(t, table, a)
	}
}

func checkBoth(t *testing.T, table []int, a int) {
	t.Helper()
	cos, sin := cosOf(table, normOf(a)), sinOf(table, normOf(a))
	if x := Cos(a); x != cos {
		t.Fatalf("Cos(%d) = %d, not %d", a, x, cos)
	}
	if x := Sin(a); x != sin {
		t.Fatalf("Sin(%d) = %d, not %d", a, x, sin)
	}
	if x, y := Both(a); x != cos || y != sin {
		t.Fatalf("Both(%d) = %d, %d, not %d, %d", a, x, y, cos, sin)
	}
}

package matrix

import (
	"math/big"
	"math/rand"
	"strings"
	"testing"

	"commutator/api"
	"commutator/dyadic"
)

// The references compute with fractions of math/big, so that they share nothing with package dyadic but Text.

type matrix = [][]api.Dyadic
type fractions = [][]*big.Rat

// fraction returns the number that a counts for.
func fraction(a api.Dyadic) *big.Rat {
	over, den, _ := strings.Cut(dyadic.Text(a), "/2^")
	if den == "" {
		den = "0"
	}
	m, _ := new(big.Int).SetString(over, 10)
	n, _ := new(big.Int).SetString(den, 10)
	return new(big.Rat).SetFrac(m, new(big.Int).Lsh(big.NewInt(1), uint(n.Int64())))
}

func fractionsOf(a matrix) fractions {
	return fractionsBy(len(a), len(a[0]), func(i, j int) *big.Rat { return fraction(a[i][j]) })
}

func fractionsBy(rows, columns int, element func(i, j int) *big.Rat) fractions {
	var list fractions
	for i := range rows {
		list = append(list, nil)
		for j := range columns {
			list[i] = append(list[i], element(i, j))
		}
	}
	return list
}

func sumOf(a, b fractions) fractions {
	return fractionsBy(len(a), len(a[0]), func(i, j int) *big.Rat { return new(big.Rat).Add(a[i][j], b[i][j]) })
}

func productOf(a, b fractions) fractions {
	return fractionsBy(len(a), len(b[0]), func(i, j int) *big.Rat {
		sum := new(big.Rat)
		for k := range b {
			sum.Add(sum, new(big.Rat).Mul(a[i][k], b[k][j]))
		}
		return sum
	})
}

func identityOf(n int) fractions {
	return fractionsBy(n, n, func(i, j int) *big.Rat {
		if i == j {
			return big.NewRat(1, 1)
		}
		return new(big.Rat)
	})
}

func sizesOf(a fractions) fractions {
	return fractionsBy(len(a), len(a[0]), func(i, j int) *big.Rat { return new(big.Rat).Abs(a[i][j]) })
}

func normOf(a fractions) *big.Rat {
	norm := new(big.Rat)
	for _, row := range sizesOf(a) {
		sum := new(big.Rat)
		for _, x := range row {
			sum.Add(sum, x)
		}
		if sum.Cmp(norm) > 0 {
			norm = sum
		}
	}
	return norm
}

func isAtMost(a, b fractions) bool {
	for i := range a {
		for j := range a[i] {
			if a[i][j].Cmp(b[i][j]) > 0 {
				return false
			}
		}
	}
	return true
}

// expect reports an error, and a result that is not the matrix of valid numbers.
func expect(t *testing.T, name string, want fractions, got matrix, err error, args ...any) {
	t.Helper()
	if err != nil || len(got) != len(want) {
		t.Fatalf("%s of %v: %v, %v", name, args, got, err)
	}
	for i := range want {
		if len(got[i]) != len(want[i]) {
			t.Fatalf("%s of %v: row %d has %d elements", name, args, i, len(got[i]))
		}
		for j, x := range want[i] {
			if !dyadic.Valid(got[i][j]) || fraction(got[i][j]).Cmp(x) != 0 {
				t.Fatalf("%s of %v: in row %d and column %d %v, not %v", name, args, i, j, got[i][j], x)
			}
		}
	}
}

// must returns a result that has no error.
func must[T any](result T, err error) T {
	if err != nil {
		panic(err)
	}
	return result
}

// equal reports whether the numbers of two matrices of the same size are the same.
func equal(a, b matrix) bool {
	return must(Le(a, b)) && must(Le(b, a))
}

// of returns the matrix of the ints.
func of(rows ...[]int) matrix {
	return filled(len(rows), len(rows[0]), func(i, j int) api.Dyadic { return dyadic.Of(rows[i][j]) })
}

// read returns the matrix with the Text s.
func read(s string) matrix {
	var a matrix
	for row := range strings.SplitSeq(s, "; ") {
		a = append(a, nil)
		for element := range strings.SplitSeq(row, " ") {
			a[len(a)-1] = append(a[len(a)-1], must(dyadic.Parse(element)))
		}
	}
	return a
}

// generator makes matrices without a pattern, the same ones in each run.
type generator struct{ *rand.Rand }

func newGenerator(seed int64) generator {
	return generator{rand.New(rand.NewSource(seed))}
}

// number returns 0, a small number, or one of some words, whole or on grids down to 2^-150.
func (g generator) number() api.Dyadic {
	switch g.Intn(6) {
	case 0:
		return api.Dyadic{}
	case 1, 2:
		return dyadic.Of(g.Intn(9) - 4)
	}
	x := dyadic.Of(int(g.Uint64()) >> g.Intn(64))
	for range g.Intn(3) {
		x = dyadic.Mul(x, dyadic.Of(g.Int()))
	}
	return dyadic.Shift(x, g.Intn(180)-150)
}

func (g generator) vector(n int) []api.Dyadic {
	return g.matrix(1, n)[0]
}

func (g generator) matrix(rows, columns int) matrix {
	return filled(rows, columns, func(i, j int) api.Dyadic { return g.number() })
}

// fine returns a matrix on the finest grids, whose products are truncated.
func (g generator) fine(rows, columns int) matrix {
	return filled(rows, columns, func(i, j int) api.Dyadic {
		return dyadic.Shift(dyadic.Of(g.Intn(15)-7), -api.MaxDen/2-g.Intn(4))
	})
}

func (g generator) size() int {
	return 1 + g.Intn(MaxSize)
}

// column returns x as a matrix of one column.
func column(x []api.Dyadic) matrix {
	return transposed(matrix{x})
}

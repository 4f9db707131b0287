package word

import (
	"math"
	"math/big"
	"math/rand"
	"slices"
	"testing"

	"commutator/api"
)

// operation is one operation with all arguments but one fixed; exact is what it rounds.
type operation struct {
	name  string
	do    func(x int) (int, bool, error)
	exact func(x int) *big.Rat
}

// operations are all operations that round, of one mode and of one format, with a fixed word b as the other operand.
func operations(f api.Format, b, n, mode int) []operation {
	list := []operation{
		{"Mul", func(x int) (int, bool, error) { return Mul(f, x, b, n, mode) },
			func(x int) *big.Rat { return scaled(product(x, b), n) }},
		{"Dot", func(x int) (int, bool, error) { return Dot(f, []int{x, x}, []int{b, 1}, n, mode) },
			func(x int) *big.Rat { return scaled(dotOf([]int{x, x}, []int{b, 1}), n) }},
		{"Convert", func(x int) (int, bool, error) {
			return Convert(api.Format{Bits: f.Bits, Scale: n}, api.Format{Bits: f.Bits}, x, mode)
		}, func(x int) *big.Rat { return scaled(ratOf(x), n) }},
	}
	if b != 0 {
		list = append(list, operation{"Div", func(x int) (int, bool, error) { return Div(f, x, b, n, mode) },
			func(x int) *big.Rat { return quotient(x, b, n) }})
	}
	return list
}

// everyOperation calls visit with all operations of small formats and of some great ones.
func everyOperation(visit func(op operation, f api.Format, mode int, list []int)) {
	for _, bits := range []int{3, 5, 32} {
		f := format(bits)
		list := edges(f)
		if bits <= 5 {
			list = words(f)
		}
		slices.Sort(list)
		for _, b := range list {
			for _, n := range []int{0, 1, 2, 3, 4, 30, 31} {
				for _, mode := range modes {
					for _, op := range operations(f, b, n, mode) {
						visit(op, f, mode, list)
					}
				}
			}
		}
	}
}

// losesLittle reports whether rounding an exact number to y loses no more than the mode may.
func losesLittle(exact *big.Rat, y, mode int) bool {
	one, half := big.NewRat(1, 1), big.NewRat(1, 2)
	loss := new(big.Rat).Sub(exact, ratOf(y))
	size := new(big.Rat).Abs(loss)
	switch mode {
	case RoundFloor:
		return loss.Sign() >= 0 && loss.Cmp(one) < 0
	case RoundZero:
		return loss.Sign()*exact.Sign() >= 0 && size.Cmp(one) < 0
	}
	return size.Cmp(half) <= 0
}

// P1.2: rounding loses no more than its mode may.
func TestRoundingLosesLittle(t *testing.T) {
	everyOperation(func(op operation, f api.Format, mode int, list []int) {
		for _, x := range list {
			if y, cut, err := op.do(x); err != nil || !cut && !losesLittle(op.exact(x), y, mode) {
				t.Fatalf("%s of %d in %v by mode %d: %d, %v", op.name, x, f, mode, y, err)
			}
		}
	})
	for _, x := range ints() {
		for n := 0; n <= 62; n++ {
			for _, mode := range modes {
				if y, err := Shift(x, n, mode); err != nil || !losesLittle(scaled(ratOf(x), n), y, mode) {
					t.Fatalf("Shift(%d, %d, %d) = %d, %v", x, n, mode, y, err)
				}
			}
		}
	}
}

// P1.3: a greater argument gives no less, where the exact result is no less, and the other way round.
func TestOperationsAreMonotone(t *testing.T) {
	everyOperation(func(op operation, f api.Format, mode int, list []int) {
		for i := 1; i < len(list); i++ {
			y, _, _ := op.do(list[i-1])
			z, _, _ := op.do(list[i])
			if order := op.exact(list[i-1]).Cmp(op.exact(list[i])); order <= 0 && y > z || order >= 0 && y < z {
				t.Fatalf("%s of %d and %d in %v by mode %d: %d and %d", op.name, list[i-1], list[i], f, mode, y, z)
			}
		}
	})
}

func TestShiftIsMonotone(t *testing.T) {
	list := ints()
	slices.Sort(list)
	for n := 0; n <= 62; n++ {
		for _, mode := range modes {
			last := math.MinInt
			for _, x := range list {
				y, err := Shift(x, n, mode)
				if err != nil || y < last {
					t.Fatalf("Shift(%d, %d, %d) = %d, %v behind %d", x, n, mode, y, err, last)
				}
				last = y
			}
		}
	}
}

func TestSumsAndClipAreMonotone(t *testing.T) {
	for _, bits := range []int{2, 5, 32} {
		f := format(bits)
		list := edges(f)
		slices.Sort(list)
		for _, b := range list {
			ascends(t, "Add", list, func(x int) (int, bool, error) { return Add(f, x, b) })
			ascends(t, "Sub", list, func(x int) (int, bool, error) { return Sub(f, x, b) })
			ascends(t, "Sub from", list, func(x int) (int, bool, error) { return Sub(f, b, ^x) })
		}
		all := ints()
		slices.Sort(all)
		ascends(t, "Clip", all, func(x int) (int, bool, error) { return Clip(f, x) })
	}
}

func ascends(t *testing.T, name string, list []int, do func(int) (int, bool, error)) {
	t.Helper()
	last := math.MinInt
	for _, x := range list {
		y, _, err := do(x)
		if err != nil || y < last {
			t.Fatalf("%s of %d: %d, %v behind %d", name, x, y, err, last)
		}
		last = y
	}
}

// P1.3: a lesser divisor of the same sign gives a quotient farther from 0.
func TestDivIsMonotoneInTheDivisor(t *testing.T) {
	f := format(5)
	for _, a := range words(f) {
		for _, mode := range modes {
			for b := 2; b <= 15; b++ {
				for _, sign := range []int{-1, 1} {
					y, _, _ := Div(f, a, sign*(b-1), 3, mode)
					z, _, _ := Div(f, a, sign*b, 3, mode)
					if a*sign >= 0 && y < z || a*sign <= 0 && y > z {
						t.Fatalf("%d divided by %d and %d: %d and %d", a, sign*(b-1), sign*b, y, z)
					}
				}
			}
		}
	}
}

// P1.3: Add and Mul are commutative.
func TestAddAndMulAreCommutative(t *testing.T) {
	for _, bits := range []int{2, 5, 32} {
		f := format(bits)
		for _, a := range edges(f) {
			for _, b := range edges(f) {
				compare(t, "Add", got(Add(f, a, b)), got(Add(f, b, a)), f, a, b)
				for _, mode := range modes {
					compare(t, "Mul", got(Mul(f, a, b, 3, mode)), got(Mul(f, b, a, 3, mode)), f, a, b, mode)
				}
			}
		}
	}
}

// P1.3: RoundZero and RoundEven are symmetric.
func TestZeroAndEvenAreSymmetric(t *testing.T) {
	everyOperation(func(op operation, f api.Format, mode int, list []int) {
		if mode != RoundZero && mode != RoundEven {
			return
		}
		for _, x := range list {
			y, cut, err := op.do(x)
			z, _, other := op.do(-x)
			if err == nil && other == nil && !cut && y != -1<<(f.Bits-1) && y != -z {
				t.Fatalf("%s of %d and its negative in %v by mode %d: %d and %d", op.name, x, f, mode, y, z)
			}
		}
	})
	for _, x := range ints() {
		for n := 0; n <= 62 && x != math.MinInt; n++ {
			for _, mode := range []int{RoundZero, RoundEven} {
				y, _ := Shift(x, n, mode)
				if z, _ := Shift(-x, n, mode); y != -z {
					t.Fatalf("Shift(%d, %d, %d) = %d, of the negative %d", x, n, mode, y, z)
				}
			}
		}
	}
}

// P1.4: Dot does not depend on the order of its elements.
func TestDotDoesNotDependOnTheOrder(t *testing.T) {
	r := rand.New(rand.NewSource(3))
	f := format(32)
	for n := 0; n <= 62; n++ {
		for _, length := range []int{2, 9, 256} {
			a, b := randomWords(r, f, length), randomWords(r, f, length)
			order := r.Perm(length)
			c, d := make([]int, length), make([]int, length)
			for i, k := range order {
				c[i], d[i] = a[k], b[k]
			}
			for _, mode := range modes {
				compare(t, "Dot", got(Dot(f, a, b, n, mode)), got(Dot(f, c, d, n, mode)), a, b, order, n, mode)
			}
		}
	}
}

// P1.4: Dot of one element is Mul.
func TestDotOfOneElementIsMul(t *testing.T) {
	for _, bits := range []int{3, 8, 32} {
		f := format(bits)
		for _, a := range edges(f) {
			for _, b := range edges(f) {
				for n := 0; n <= 62; n++ {
					for _, mode := range modes {
						compare(t, "Dot", got(Dot(f, []int{a}, []int{b}, n, mode)), got(Mul(f, a, b, n, mode)), f, a, b, n, mode)
					}
				}
			}
		}
	}
}

// P1.4: Convert to more bits and a scale that is not less, and back, returns the word.
func TestConvertThereAndBack(t *testing.T) {
	kept := 0
	for from := 2; from <= 31; from++ {
		for to := from + 1; to <= 32; to++ {
			for _, up := range []int{0, 1, 2, to - from, to - from + 1, 31, 64} {
				a, b := api.Format{Bits: from, Scale: -3}, api.Format{Bits: to, Scale: up - 3}
				for _, x := range edges(a) {
					for _, mode := range modes {
						y, cut, err := Convert(a, b, x, mode)
						if err != nil {
							t.Fatalf("Convert(%v, %v, %d, %d): %v", a, b, x, mode, err)
						}
						if cut {
							continue
						}
						kept++
						compare(t, "Convert", got(Convert(b, a, y, mode)), result{x, false, nil}, a, b, x, mode)
					}
				}
			}
		}
	}
	if kept == 0 {
		t.Error("no word was converted without saturating")
	}
}

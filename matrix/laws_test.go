package matrix

import (
	"testing"

	"commutator/api"
	"commutator/dyadic"
)

// law reports two matrices that should be equal.
func law(t *testing.T, name string, a, b matrix) {
	t.Helper()
	if !equal(a, b) {
		t.Fatalf("%s: %s and %s", name, must(Text(a)), must(Text(b)))
	}
}

func zero(rows, columns int) matrix {
	return filled(rows, columns, func(i, j int) api.Dyadic { return api.Dyadic{} })
}

// P4.2: sums and products satisfy the laws of matrices.
func TestLawsOfSums(t *testing.T) {
	g := newGenerator(10)
	for range 200 {
		rows, columns := g.size(), g.size()
		a, b, c := g.matrix(rows, columns), g.matrix(rows, columns), g.matrix(rows, columns)
		law(t, "a + b = b + a", must(Add(a, b)), must(Add(b, a)))
		law(t, "(a + b) + c = a + (b + c)", must(Add(must(Add(a, b)), c)), must(Add(a, must(Add(b, c)))))
		law(t, "a + 0 = a", must(Add(a, zero(rows, columns))), a)
		negative := must(Mul(of([]int{-1}), matrix{a[0]}))
		law(t, "a + (-1 a) = 0", must(Add(matrix{a[0]}, negative)), zero(1, columns))
	}
}

func TestLawsOfProducts(t *testing.T) {
	g := newGenerator(11)
	for range 200 {
		p, q, r, s := g.size(), g.size(), g.size(), g.size()
		a, b, b2, c := g.matrix(p, q), g.matrix(q, r), g.matrix(q, r), g.matrix(r, s)
		law(t, "(a b) c = a (b c)", must(Mul(must(Mul(a, b)), c)), must(Mul(a, must(Mul(b, c)))))
		law(t, "a (b + b2) = a b + a b2", must(Mul(a, must(Add(b, b2)))), must(Add(must(Mul(a, b)), must(Mul(a, b2)))))
		law(t, "(b + b2) c = b c + b2 c", must(Mul(must(Add(b, b2)), c)), must(Add(must(Mul(b, c)), must(Mul(b2, c)))))
		law(t, "1 a = a", must(Mul(must(Identity(p)), a)), a)
		law(t, "a 1 = a", must(Mul(a, must(Identity(q)))), a)
		law(t, "a 0 = 0", must(Mul(a, zero(q, r))), zero(p, r))
		law(t, "0 a = 0", must(Mul(zero(r, p), a)), zero(r, q))
	}
}

func TestLawsOfVectors(t *testing.T) {
	g := newGenerator(12)
	for range 200 {
		p, q, r := g.size(), g.size(), g.size()
		a, b, b2, x, y := g.matrix(p, q), g.matrix(q, r), g.matrix(q, r), g.vector(r), g.vector(r)
		bx, b2x := must(Apply(b, x)), must(Apply(b2, x))
		law(t, "(a b) x = a (b x)", column(must(Apply(must(Mul(a, b)), x))), column(must(Apply(a, bx))))
		law(t, "(b + b2) x = b x + b2 x", column(must(Apply(must(Add(b, b2)), x))), must(Add(column(bx), column(b2x))))
		sum := must(Add(matrix{x}, matrix{y}))[0]
		law(t, "b (x + y) = b x + b y", column(must(Apply(b, sum))), must(Add(column(bx), column(must(Apply(b, y))))))
		law(t, "1 x = x", column(must(Apply(must(Identity(r)), x))), column(x))
		law(t, "b x is a product", column(bx), must(Mul(b, column(x))))
	}
}

func TestPowersAdd(t *testing.T) {
	g := newGenerator(13)
	for n := 1; n <= 4; n++ {
		a := g.matrix(n, n)
		for j := range 8 {
			for k := range 8 {
				sum := must(Power(a, j+k))
				law(t, "a^j a^k = a^(j+k)", must(Mul(must(Power(a, j)), must(Power(a, k)))), sum)
				law(t, "(a^j)^k = a^(jk)", must(Power(must(Power(a, j)), k)), must(Power(a, j*k)))
			}
		}
	}
	a := read("1 1/2^1; -3 2")
	for k := range MaxPower + 1 {
		law(t, "a^k a^(64-k) = a^64", must(Mul(must(Power(a, k)), must(Power(a, MaxPower-k)))), must(Power(a, MaxPower)))
	}
}

func TestFirstPowers(t *testing.T) {
	g := newGenerator(14)
	for n := 1; n <= MaxSize; n++ {
		a := g.matrix(n, n)
		law(t, "a^0 = 1", must(Power(a, 0)), must(Identity(n)))
		law(t, "a^1 = a", must(Power(a, 1)), a)
		law(t, "0^0 = 1", must(Power(zero(n, n), 0)), must(Identity(n)))
		law(t, "1^64 = 1", must(Power(must(Identity(n)), MaxPower)), must(Identity(n)))
	}
}

// pairs calls check with matrices that can be multiplied, also with such ones whose products are truncated.
func pairs(seed int64, check func(a, b matrix)) {
	g := newGenerator(seed)
	for range 200 {
		p, q, r := g.size(), g.size(), g.size()
		check(g.matrix(p, q), g.matrix(q, r))
	}
	for range 30 {
		p, q, r := 1+g.Intn(3), 1+g.Intn(3), 1+g.Intn(3)
		check(g.fine(p, q), g.fine(q, r))
	}
}

// P4.3: the absolute value of a product is at most the product of the absolute values.
func TestAbsOfProducts(t *testing.T) {
	pairs(15, func(a, b matrix) {
		size := must(Abs(must(Mul(a, b))))
		most := must(Mul(must(Abs(a)), must(Abs(b))))
		if !isAtMost(fractionsOf(size), fractionsOf(most)) || !must(Le(size, most)) {
			t.Fatalf("the product of %v and %v", a, b)
		}
	})
}

func TestAbsOfVectors(t *testing.T) {
	pairs(16, func(a, b matrix) {
		x := transposed(b)[0]
		size := must(Abs(matrix{must(Apply(a, x))}))
		most := matrix{must(Apply(must(Abs(a)), must(Abs(matrix{x}))[0]))}
		if !isAtMost(fractionsOf(size), fractionsOf(most)) || !must(Le(size, most)) {
			t.Fatalf("%v times the vector %v", a, x)
		}
	})
}

// P4.4: the norm of a product is at most the product of the norms.
func TestNormOfProducts(t *testing.T) {
	pairs(17, func(a, b matrix) {
		norm := must(Norm(must(Mul(a, b))))
		if most := dyadic.Mul(must(Norm(a)), must(Norm(b))); dyadic.Cmp(norm, most) > 0 {
			t.Fatalf("the norm %v of the product of %v and %v", norm, a, b)
		}
	})
}

func TestNormBoundsVectors(t *testing.T) {
	pairs(18, func(a, b matrix) {
		x := transposed(b)[0]
		most := dyadic.Mul(must(Norm(a)), must(Norm(column(x))))
		for _, y := range must(Apply(a, x)) {
			if dyadic.Cmp(dyadic.Abs(y), most) > 0 {
				t.Fatalf("%v times the vector %v has the element %v", a, x, y)
			}
		}
	})
}

// The norm is the least such bound: a vector of ones with the signs of a row attains it.
func TestNormIsAttained(t *testing.T) {
	g := newGenerator(19)
	for range 200 {
		a := g.matrix(g.size(), g.size())
		norm, greatest := must(Norm(a)), api.Dyadic{}
		for _, row := range a {
			signs := make([]api.Dyadic, len(row))
			for j, x := range row {
				signs[j] = dyadic.Of(dyadic.Sign(x))
			}
			for _, y := range must(Apply(a, signs)) {
				greatest = dyadic.Max(greatest, dyadic.Abs(y))
			}
		}
		if dyadic.Cmp(norm, greatest) != 0 {
			t.Fatalf("the norm %v of %v is not attained: %v", norm, a, greatest)
		}
	}
}

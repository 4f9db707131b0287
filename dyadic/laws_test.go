package dyadic

import (
	"math/big"
	"testing"

	"commutator/api"
)

// P2.2: sums, products and the order obey the laws of numbers, as long as no result needs a Den above MaxDen.

func TestLawsOfPairs(t *testing.T) {
	list := someNumbers(150)
	for _, a := range list {
		for _, b := range list {
			if !same(Add(a, b), Add(b, a)) || !same(Mul(a, b), Mul(b, a)) {
				t.Fatalf("not commutative: %v and %v", a, b)
			}
			if !same(Sub(Add(a, b), b), a) || !same(Sub(a, b), Neg(Sub(b, a))) {
				t.Fatalf("Sub is not the inverse of Add: %v and %v", a, b)
			}
			if Cmp(a, b) != -Cmp(b, a) || (Cmp(a, b) == 0) != same(a, b) {
				t.Fatalf("no total order: %v and %v", a, b)
			}
			if Cmp(a, b) != Sign(Sub(a, b)) || Cmp(a, b) != Cmp(Neg(b), Neg(a)) {
				t.Fatalf("the order disagrees with differences: %v and %v", a, b)
			}
			if !same(Add(Min(a, b), Max(a, b)), Add(a, b)) {
				t.Fatalf("Min and Max of %v and %v", a, b)
			}
		}
	}
}

func TestLawsOfTriples(t *testing.T) {
	list := someNumbers(40)
	for _, a := range list {
		for _, b := range list {
			for _, c := range list {
				if !same(Add(Add(a, b), c), Add(a, Add(b, c))) || !same(Mul(Mul(a, b), c), Mul(a, Mul(b, c))) {
					t.Fatalf("not associative: %v, %v and %v", a, b, c)
				}
				if !same(Mul(a, Add(b, c)), Add(Mul(a, b), Mul(a, c))) {
					t.Fatalf("not distributive: %v, %v and %v", a, b, c)
				}
				if Cmp(a, b) <= 0 && Cmp(b, c) <= 0 && Cmp(a, c) > 0 {
					t.Fatalf("the order is not transitive: %v, %v and %v", a, b, c)
				}
				if Cmp(a, b) != Cmp(Add(a, c), Add(b, c)) {
					t.Fatalf("the order disagrees with sums: %v, %v and %v", a, b, c)
				}
			}
		}
	}
}

// The finest grid is no obstacle as long as the results are on it.
func TestLawsOnTheFinestGrid(t *testing.T) {
	list := fineNumbers()
	for _, a := range list[:20] {
		for _, b := range list[10:40] {
			for _, c := range list[30:50] {
				if !same(Add(Add(a, b), c), Add(a, Add(b, c))) {
					t.Fatalf("not associative: %v, %v and %v", a, b, c)
				}
				if Cmp(a, b) != Cmp(Add(a, c), Add(b, c)) {
					t.Fatalf("the order disagrees with sums: %v, %v and %v", a, b, c)
				}
			}
		}
	}
}

// P2.3: Floor, Ceil and Quo have the properties that define them.

// isMultiple reports whether a is a multiple of 2^-den.
func isMultiple(a api.Dyadic, den int) bool {
	return Valid(a) && a.Den <= den
}

func unit(den int) api.Dyadic {
	return fraction(big.NewInt(1), den)
}

func TestPropertiesOfFloorAndCeil(t *testing.T) {
	for _, a := range numbers() {
		for _, den := range grids {
			below, _ := Floor(a, den)
			above, _ := Ceil(a, den)
			if !isMultiple(below, den) || Cmp(below, a) > 0 || Cmp(Add(below, unit(den)), a) <= 0 {
				t.Fatalf("Floor of %v on the grid %d: %v", a, den, below)
			}
			if !isMultiple(above, den) || Cmp(above, a) < 0 || Cmp(Sub(above, unit(den)), a) >= 0 {
				t.Fatalf("Ceil of %v on the grid %d: %v", a, den, above)
			}
		}
	}
}

func TestPropertiesOfQuo(t *testing.T) {
	list := someNumbers(60)
	for _, a := range list {
		for _, b := range list {
			for _, den := range grids {
				q, err := Quo(a, b, den)
				if Sign(b) == 0 {
					refuse(t, "Quo by 0", q, err, api.ErrZero)
					continue
				}
				// q <= a / b < q + 2^-den, times b.
				low, high := Mul(q, b), Mul(Add(q, unit(den)), b)
				if err != nil || !isMultiple(q, den) || Cmp(low, a)*Sign(b) > 0 || Cmp(high, a)*Sign(b) <= 0 {
					t.Fatalf("Quo of %v and %v on the grid %d: %v, %v", a, b, den, q, err)
				}
			}
		}
	}
}

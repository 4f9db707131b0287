package matrix

import (
	"slices"
	"testing"

	"commutator/api"
	"commutator/dyadic"
)

// P4.1 for arguments that are refused, for numbers that are not valid, and for the memory of arguments and results.

// operation is a function of one or two matrices. Its result is a matrix, of one row for a vector and of one element for a number, or a text.
type operation struct {
	name string
	two  bool
	of   func(a, b matrix) (result matrix, text string, err error)
}

func operations() []operation {
	return []operation{
		{"Check", false, func(a, b matrix) (matrix, string, error) { return nil, "", Check(a) }},
		{"Add", true, func(a, b matrix) (matrix, string, error) { return result(Add(a, b)) }},
		{"Mul", true, func(a, b matrix) (matrix, string, error) { return result(Mul(a, b)) }},
		{"Power", false, func(a, b matrix) (matrix, string, error) { return result(Power(a, 3)) }},
		{"Power to 1", false, func(a, b matrix) (matrix, string, error) { return result(Power(a, 1)) }},
		{"Power to 0", false, func(a, b matrix) (matrix, string, error) { return result(Power(a, 0)) }},
		{"Abs", false, func(a, b matrix) (matrix, string, error) { return result(Abs(a)) }},
		{"Apply", false, func(a, b matrix) (matrix, string, error) { return vector(Apply(a, firstRow(b))) }},
		{"Le", true, func(a, b matrix) (matrix, string, error) { return answer(Le(a, b)) }},
		{"Norm", false, func(a, b matrix) (matrix, string, error) { return number(Norm(a)) }},
		{"Text", false, func(a, b matrix) (matrix, string, error) { return text(Text(a)) }},
	}
}

func result(a matrix, err error) (matrix, string, error) { return a, "", err }

func text(s string, err error) (matrix, string, error) { return nil, s, err }

func vector(x []api.Dyadic, err error) (matrix, string, error) {
	if len(x) == 0 {
		return nil, "", err
	}
	return matrix{x}, "", err
}

func number(x api.Dyadic, err error) (matrix, string, error) {
	if err != nil && sameNumber(x, api.Dyadic{}) {
		return nil, "", err
	}
	return matrix{{x}}, "", err
}

func answer(is bool, err error) (matrix, string, error) {
	if is {
		return nil, "true", err
	}
	return nil, "", err
}

func firstRow(a matrix) []api.Dyadic {
	if len(a) == 0 {
		return nil
	}
	return a[0]
}

// refuse reports a call that does not return the error, or returns something else with it.
func (op operation) refuse(t *testing.T, want error, a, b matrix) {
	t.Helper()
	if got, s, err := op.of(a, b); err != want || len(got) > 0 || s != "" {
		t.Errorf("%s of %v and %v: %v, %q, %v, not %v", op.name, a, b, got, s, err, want)
	}
}

type refusal struct {
	a    matrix
	want error
}

// shaped returns a matrix of rows of these lengths.
func shaped(lengths ...int) matrix {
	a := matrix{}
	for _, n := range lengths {
		a = append(a, make([]api.Dyadic, n))
	}
	return a
}

func refusals() []refusal {
	return []refusal{
		{nil, api.ErrShape},
		{matrix{}, api.ErrShape},
		{matrix{nil}, api.ErrShape},
		{matrix{{}}, api.ErrShape},
		{shaped(0, 1), api.ErrShape},
		{shaped(0, 9), api.ErrShape},
		{shaped(0, 1, 1, 1, 1, 1, 1, 1, 1), api.ErrShape},
		{shaped(9), api.ErrLarge},
		{shaped(9, 9), api.ErrLarge},
		{shaped(9, 1), api.ErrLarge},
		{shaped(1000), api.ErrLarge},
		{shaped(1, 1, 1, 1, 1, 1, 1, 1, 1), api.ErrLarge},
		{shaped(1, 2, 1, 1, 1, 1, 1, 1, 1), api.ErrLarge},
		{shaped(8, 8, 8, 8, 8, 8, 8, 8, 8), api.ErrLarge},
		{make(matrix, 9), api.ErrShape},
		{shaped(1, 0), api.ErrShape},
		{shaped(2, 1), api.ErrShape},
		{shaped(1, 2), api.ErrShape},
		{shaped(8, 9), api.ErrShape},
		{shaped(2, 2, 2, 3), api.ErrShape},
		{shaped(2, 2, 1, 2), api.ErrShape},
		{shaped(8, 8, 8, 8, 8, 8, 8, 0), api.ErrShape},
	}
}

func TestRefusedMatrices(t *testing.T) {
	for _, r := range refusals() {
		for _, op := range operations() {
			for _, b := range []matrix{r.a, shaped(1), shaped(2, 2), shaped(9), nil} {
				op.refuse(t, r.want, r.a, b)
			}
			if op.two {
				op.refuse(t, r.want, shaped(1), r.a)
				op.refuse(t, r.want, shaped(3, 3), r.a)
			}
		}
		if a, err := Power(r.a, -1); a != nil || err != r.want {
			t.Errorf("Power of %v to -1: %v, %v", r.a, a, err)
		}
	}
}

func TestTheFirstMatrixIsCheckedFirst(t *testing.T) {
	for _, first := range refusals() {
		for _, second := range refusals() {
			for _, op := range operations() {
				op.refuse(t, first.want, first.a, second.a)
			}
		}
	}
}

func TestShapesThatDoNotAgree(t *testing.T) {
	g := newGenerator(30)
	for _, op := range operations() {
		for rows := 1; rows <= MaxSize; rows++ {
			for columns := 1; columns <= MaxSize; columns++ {
				a, b := g.matrix(rows, columns), g.matrix(g.size(), g.size())
				if !agree(op.name, a, b) {
					op.refuse(t, api.ErrShape, a, b)
				} else if _, _, err := op.of(a, b); err != nil {
					t.Errorf("%s of %v and %v: %v", op.name, a, b, err)
				}
			}
		}
	}
	for _, n := range []int{0, 1, 3, 8, 9, 1000} {
		if y, err := Apply(shaped(2, 2), make([]api.Dyadic, n)); y != nil || err != api.ErrShape {
			t.Errorf("Apply with %d elements: %v, %v", n, y, err)
		}
	}
}

// agree reports whether a function accepts two matrices of these sizes.
func agree(name string, a, b matrix) bool {
	switch name {
	case "Add", "Le":
		return len(a) == len(b) && len(a[0]) == len(b[0])
	case "Mul":
		return len(a[0]) == len(b)
	case "Apply":
		return len(a[0]) == len(b[0])
	case "Power", "Power to 1", "Power to 0":
		return len(a) == len(a[0])
	}
	return true
}

func TestRefusedInts(t *testing.T) {
	for _, n := range []int{-1 << 63, -MaxSize, -1, 0, MaxSize + 1, 1 << 32, 1<<63 - 1} {
		if a, err := Identity(n); a != nil || err != api.ErrRange {
			t.Errorf("Identity of %d: %v, %v", n, a, err)
		}
	}
	for _, k := range []int{-1 << 63, -2, -1, MaxPower + 1, 1 << 32, 1<<63 - 1} {
		if a, err := Power(shaped(2, 2), k); a != nil || err != api.ErrRange {
			t.Fatalf("Power to %d: %v, %v", k, a, err)
		}
		if a, err := Power(shaped(2), k); a != nil || err != api.ErrShape {
			t.Errorf("Power of a matrix that is not square to %d: %v, %v", k, a, err)
		}
	}
}

// invalidNumbers are not valid: they count as 0, whatever their fields seem to say.
func invalidNumbers() []api.Dyadic {
	return []api.Dyadic{
		{Neg: true, Words: []uint32{3, 0}},
		{Words: []uint32{6}, Den: 1},
		{Neg: true},
		{Den: 5},
		{Words: []uint32{1}, Den: -1},
		{Words: []uint32{1}, Den: api.MaxDen + 1},
		{Neg: true, Words: []uint32{7}, Den: 1 << 62},
	}
}

// spoiled returns a with numbers that are not valid in some places, and a with 0 there.
func (g generator) spoiled(a matrix) (bad, zeros matrix) {
	list := invalidNumbers()
	bad, zeros = copied(a), copied(a)
	for i, row := range a {
		for j := range row {
			if g.Intn(3) == 0 {
				bad[i][j], zeros[i][j] = list[g.Intn(len(list))], api.Dyadic{}
			}
		}
	}
	return bad, zeros
}

func TestInvalidNumbersCountAsZero(t *testing.T) {
	g := newGenerator(31)
	for range 200 {
		n := g.size()
		a, zerosA := g.spoiled(g.matrix(n, n))
		b, zerosB := g.spoiled(g.matrix(n, n))
		for _, op := range operations() {
			got, s, err := op.of(a, b)
			want, wantText, wantErr := op.of(zerosA, zerosB)
			if !same(got, want) || s != wantText || err != wantErr {
				t.Fatalf("%s of %v and %v: %v, %q, %v", op.name, a, b, got, s, err)
			}
			for _, row := range got {
				if slices.ContainsFunc(row, func(x api.Dyadic) bool { return !dyadic.Valid(x) }) {
					t.Fatalf("%s of %v and %v is not valid: %v", op.name, a, b, got)
				}
			}
		}
	}
}

func TestOnlyInvalidNumbers(t *testing.T) {
	for _, x := range invalidNumbers() {
		a := matrix{{x}}
		for _, op := range operations() {
			got, s, err := op.of(a, a)
			want, wantText, _ := op.of(zero(1, 1), zero(1, 1))
			if !same(got, want) || s != wantText || err != nil {
				t.Errorf("%s of %v: %v, %q, %v", op.name, a, got, s, err)
			}
		}
		if s, err := Text(a); s != "0" || err != nil {
			t.Errorf("Text of %v: %q, %v", a, s, err)
		}
	}
}

// same reports whether all fields of the numbers are the same.
func same(a, b matrix) bool {
	return slices.EqualFunc(a, b, func(row, other []api.Dyadic) bool {
		return slices.EqualFunc(row, other, sameNumber)
	})
}

func sameNumber(x, y api.Dyadic) bool {
	return x.Neg == y.Neg && x.Den == y.Den && slices.Equal(x.Words, y.Words)
}

// copied returns a in new memory, with the lists and words lying inside longer ones.
func copied(a matrix) matrix {
	rows := slices.Grow(matrix{}, len(a)+2)
	for _, row := range a {
		list := slices.Grow([]api.Dyadic{}, len(row)+2)
		for _, x := range row {
			x.Words = append(slices.Grow([]uint32{}, len(x.Words)+3), x.Words...)
			list = append(list, x)
		}
		rows = append(rows, list)
	}
	return rows
}

// fill overwrites all memory of a, also what lies behind its lists and words.
func fill(a matrix, mark uint32) {
	for _, row := range a[:cap(a)] {
		for j, x := range row[:cap(row)] {
			words := x.Words[:cap(x.Words)]
			for i := range words {
				words[i] = mark
			}
			row[:cap(row)][j].Den = int(mark)
		}
	}
}

func TestMemory(t *testing.T) {
	g := newGenerator(32)
	for range 100 {
		n := g.size()
		a, _ := g.spoiled(g.matrix(n, n))
		b, _ := g.spoiled(g.matrix(n, n))
		for _, op := range operations() {
			argA, argB := copied(a), copied(b)
			got, _, _ := op.of(argA, argB)
			if !same(argA, a) || !same(argB, b) {
				t.Fatalf("%s changes %v or %v", op.name, a, b)
			}
			before := copied(got)
			fill(argA, 0x55555555)
			fill(argB, 0xaaaaaaaa)
			if !same(got, before) {
				t.Fatalf("the result of %s shares memory with %v or %v", op.name, a, b)
			}
		}
	}
}

// Each row and each number of a result has memory of its own, which a later call does not use again.
func TestMemoryWithinResults(t *testing.T) {
	g := newGenerator(33)
	for range 30 {
		n := g.size()
		a, b := g.matrix(n, n), g.matrix(n, n)
		for _, op := range operations() {
			got, _, _ := op.of(a, b)
			checkApart(t, op.name, got)
			again, _, _ := op.of(a, b)
			before := copied(again)
			fill(got, 0x55555555)
			if !same(again, before) {
				t.Fatalf("two results of %s of %v and %v share memory", op.name, a, b)
			}
		}
		checkApart(t, "Identity", must(Identity(n)))
	}
}

// checkApart overwrites one row and one number of a after the other, and looks at the rest.
func checkApart(t *testing.T, name string, a matrix) {
	t.Helper()
	for i, row := range a {
		for j := range row {
			before := copied(a)
			fill(matrix{row[j : j+1 : j+1]}, 0x55555555)
			before[i][j] = row[j]
			if !same(a, before) {
				t.Fatalf("numbers of the result of %s share memory", name)
			}
		}
	}
	for i, row := range a {
		before := copied(a)
		before[i] = row
		fill(matrix{row}, 0xaaaaaaaa)
		if !same(a, before) {
			t.Fatalf("rows of the result of %s share memory", name)
		}
	}
}

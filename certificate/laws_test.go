package certificate

import (
	"math/big"
	"math/rand"
	"slices"
	"testing"

	"commutator/api"
	"commutator/code"
	"commutator/compile"
	"commutator/exact"
)

// anyIn returns inputs in the ranges of the ports, often at their ends.
func anyIn(r *rand.Rand, ports []api.Port) []int {
	var in []int
	for _, p := range ports {
		in = append(in, []int{p.Lo, p.Hi, p.Lo + r.Intn(p.Hi-p.Lo+1)}[r.Intn(3)])
	}
	return in
}

// runs are runs of code beside its diagram: ticks, and for each kind of block the cells, those that are off, and those that are off by
// more than half of what is permitted.
type runs struct {
	ticks           int
	cells, off, far [api.BlockClip + 1]int
}

// program is the code of a certificate that is accepted.
func (s sheet) program(t *testing.T) api.Program {
	t.Helper()
	s.expect(t, "a certificate to be run", 0, 0)
	p, err := compile.Compile(s.d, s.f)
	if err != nil {
		t.Fatalf("the code of %v: %v", s, err)
	}
	return p
}

// run runs the code of a certificate that is accepted, from the start of the diagram, and checks what it claims. It stops early where
// an exact value is too long.
func (x *runs) run(t *testing.T, s sheet, list [][]int) {
	t.Helper()
	p := s.program(t)
	cells := p.Init
	state, err := exact.Start(s.d)
	if err != nil {
		t.Fatalf("exact.Start(%v): %v", s.d, err)
	}
	for _, in := range list {
		next, values, err := exact.Step(s.d, state, in)
		if err == api.ErrLarge {
			return
		}
		if err != nil {
			t.Fatalf("exact.Step(%v, %v, %v): %v", s.d, state, in, err)
		}
		run, err := code.Run(p, cells, in)
		if err != nil || run.Overflow {
			t.Fatalf("%v overflows with %v and %v: %v, %v", s, cells, in, run, err)
		}
		x.ticks++
		for i, b := range s.d.Blocks {
			// In its tick a delay has what it had before the run.
			cell := run.Cells[i]
			if b.Kind == api.BlockDelay {
				cell = cells[i]
			}
			x.check(t, s, i, cell, fractionOf(values[i]))
		}
		cells, state = run.Cells, next
	}
}

// check checks what a certificate claims of a block's cell and exact value.
func (x *runs) check(t *testing.T, s sheet, i, cell int, value *big.Rat) {
	t.Helper()
	kind := s.d.Blocks[i].Kind
	if !s.rs[i].contains(hullOf(value)) {
		t.Fatalf("block %d has the exact value %v: %v", i, value, s)
	}
	off := new(big.Rat).Sub(scaled(cell, -s.f[i]), value)
	if off.Abs(off).Cmp(s.errs[i]) > 0 {
		t.Fatalf("block %d is off by %v: %v", i, off, s)
	}
	x.cells[kind]++
	if off.Sign() > 0 {
		x.off[kind]++
	}
	if off.Sign() > 0 && off.Add(off, off).Cmp(s.errs[i]) > 0 {
		x.far[kind]++
	}
}

func anyInputs(r *rand.Rand, d api.Diagram, ticks int) [][]int {
	var list [][]int
	for range ticks {
		list = append(list, anyIn(r, d.Inputs))
	}
	return list
}

// P16.2: what Verify accepts holds, whoever made it.
func TestAcceptedCertificatesHold(t *testing.T) {
	r := rand.New(rand.NewSource(10))
	var seen runs
	for i, d := range diagrams(r, 20, 24) {
		if i%3 == 0 {
			d = slowed(r, d)
		}
		c, is, err := Make(d, 2)
		if !is || err != nil {
			continue
		}
		s := sheetOf(d, c)
		seen.run(t, s, anyInputs(r, d, 12))
		for range 3 {
			if loose, ok := s.looser(r); ok {
				s = loose
			}
			if _, wrong := s.fault(); !wrong {
				seen.run(t, s, anyInputs(r, d, 12))
			}
			for range 4 {
				x := s.changed(r)
				if is, _, _ := Verify(x.d, x.cert()); is {
					seen.run(t, x, anyInputs(r, x.d, 12))
				}
			}
		}
	}
	if seen.ticks < 10000 || slices.Min(seen.off[:]) < 1000 || slices.Min(seen.far[:]) < 500 {
		t.Errorf("%+v", seen)
	}
}

// pairs lists all inputs of two ports.
func pairs(p, q api.Port) [][]int {
	var list [][]int
	for x := p.Lo; x <= p.Hi; x++ {
		for y := q.Lo; y <= q.Hi; y++ {
			list = append(list, []int{x, y})
		}
	}
	return list
}

// operations are blocks of each kind whose arguments are blocks, with the numbers 0 and 1.
func operations() []api.Block {
	minus, fine := api.Scalar{Num: -5, Exp: -3}, api.Scalar{Num: 5, Exp: -4}
	var list []api.Block
	for kind, n := range argsOf {
		b := api.Block{Kind: kind, Args: []int{0, 1}[:n]}
		switch kind {
		case api.BlockInput:
			continue
		case api.BlockConst, api.BlockDelay, api.BlockGain:
			b.Value = minus
		case api.BlockClip:
			b.Value, b.Upper = minus, fine
		}
		list = append(list, b)
	}
	return append(list,
		api.Block{Kind: api.BlockSub, Args: []int{1, 0}},
		api.Block{Kind: api.BlockMul, Args: []int{0, 0}},
		api.Block{Kind: api.BlockGain, Args: []int{1}, Value: api.Scalar{Num: 5, Exp: -1}},
		api.Block{Kind: api.BlockClip, Args: []int{1}, Value: api.Scalar{Num: -1}, Upper: api.Scalar{Num: 1}})
}

// tight is the certificate with the least ranges and errors for a diagram whose blocks stand behind their arguments.
func tight(d api.Diagram, f []int) sheet {
	s := sheet{d, f, make([]span, len(f)), make([]*big.Rat, len(f))}
	for i := range f {
		s.rs[i] = s.needed(i)
		s.errs[i] = s.bound(i)
	}
	return s
}

// P16.2 for each kind of block with all small scales, at all inputs: the least errors that are accepted hold.
func TestEveryKindHolds(t *testing.T) {
	var seen runs
	ports := []api.Port{{Lo: -13, Hi: 9, Frac: 3}, {Lo: -5, Hi: 6, Frac: 2}}
	list := pairs(ports[0], ports[1])
	for _, b := range operations() {
		d := api.Diagram{Inputs: ports, Blocks: []api.Block{{Kind: api.BlockInput, Args: []int{0}}, {Kind: api.BlockInput, Args: []int{1}}, b}}
		for f := range 4 * 4 * 4 {
			s := tight(d, []int{f % 4, f / 4 % 4, f / 16})
			seen.run(t, s, list)
		}
	}
	for kind, n := range seen.far {
		if n < 200 {
			t.Errorf("cells of kind %d are off %d times, far %d times", kind, seen.off[kind], n)
		}
	}
}

// P16.2 where there is hardly any room: with the greatest scales for which the certificate fits, nothing overflows.
func TestNothingOverflows(t *testing.T) {
	r := rand.New(rand.NewSource(11))
	var seen runs
	full := 0
	for range 150 {
		for _, b := range operations() {
			var ports []api.Port
			for range 2 {
				ports = append(ports, anyPort(r, wild))
			}
			d := api.Diagram{Inputs: ports, Blocks: []api.Block{{Kind: api.BlockInput, Args: []int{0}}, {Kind: api.BlockInput, Args: []int{1}}, b}}
			s := tight(d, []int{30, 30, 30})
			fault, wrong := s.fault()
			for wrong && s.f[fault.Block] > 0 {
				s.f[fault.Block]--
				s = tight(d, s.f)
				fault, wrong = s.fault()
			}
			if wrong {
				continue
			}
			seen.run(t, s, append(anyInputs(r, d, 10), []int{ports[0].Lo, ports[1].Lo}, []int{ports[0].Hi, ports[1].Hi}, []int{ports[0].Lo, ports[1].Hi}))
			if shifted(s.rs[2].mag(), s.f[2]).Cmp(scaled(1, 30)) > 0 {
				full++
			}
		}
	}
	if seen.ticks < 10000 || full < 300 {
		t.Errorf("%d ticks, %d blocks of which most of the 32 bits are used", seen.ticks, full)
	}
}

// The first instruction of a clip overflows where its argument has no room in the clip's scale, although the clip's values have.
func TestClipWithoutRoomOverflows(t *testing.T) {
	d := api.Diagram{Inputs: []api.Port{{Lo: 0, Hi: 8}}, Blocks: []api.Block{
		{Kind: api.BlockInput, Args: []int{0}},
		{Kind: api.BlockClip, Args: []int{0}, Upper: api.Scalar{Num: 1}},
	}}
	for f, want := range map[int]bool{27: false, 28: true, 29: true} {
		s := tight(d, []int{0, f})
		p, err := compile.Compile(s.d, s.f)
		if err != nil {
			t.Fatal(err)
		}
		run, err := code.Run(p, p.Init, []int{8})
		if run.Overflow != want || err != nil {
			t.Errorf("scale %d: %v, %v", f, run, err)
		}
		if want {
			s.expect(t, "a clip without room", 4, 1)
		} else {
			s.expect(t, "a clip with room", 0, 0)
		}
	}
}

// isUsed reports whether another block has block i as its argument.
func isUsed(d api.Diagram, i int) bool {
	for j, b := range d.Blocks {
		if j != i && b.Kind != api.BlockInput && slices.Contains(b.Args, i) {
			return true
		}
	}
	return false
}

// P16.3: a greater error of a block that no other block uses is accepted as long as it fits, and not any longer.
func TestGreaterErrors(t *testing.T) {
	r := rand.New(rand.NewSource(12))
	var free [api.BlockClip + 1]int
	check := func(s sheet) {
		for i, b := range s.d.Blocks {
			if isUsed(s.d, i) {
				continue
			}
			x := s.copied()
			room := sumOf(shifted(scaled(1<<31-1, 0), -s.f[i]), new(big.Rat).Neg(s.rs[i].mag()))
			for _, e := range []*big.Rat{sumOf(s.errs[i], tiny(r)), productOf(room, scaled(3, -2)), room} {
				if e.Cmp(s.errs[i]) > 0 && e.Cmp(room) <= 0 {
					x.errs[i] = e
					x.expect(t, "a greater error", 0, 0)
					free[b.Kind]++
				}
			}
			x.errs[i] = sumOf(room, tiny(r))
			x.expect(t, "an error without room", 4, i)
		}
	}
	for _, d := range diagrams(r, 16, 30) {
		if c, is, _ := Make(d, 2); is {
			check(sheetOf(d, c))
		}
	}
	// A delay may have itself as its argument.
	itself := api.Diagram{Blocks: []api.Block{{Kind: api.BlockDelay, Args: []int{0}, Value: api.Scalar{Num: 3, Exp: -1}}}}
	c, is, err := Make(itself, 1)
	if !is || err != nil {
		t.Fatal(is, err)
	}
	check(sheetOf(itself, c))
	if slices.Min(free[:]) < 20 {
		t.Errorf("blocks without users: %v", free)
	}
}

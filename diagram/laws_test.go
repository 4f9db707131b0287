package diagram

import (
	"slices"
	"testing"

	"commutator/api"
)

// P10.2: in Order every block that is no delay occurs once, behind its arguments.
func TestOrderListsBlocksBehindTheirArguments(t *testing.T) {
	for _, d := range accepted(11) {
		list, err := Order(d)
		if err != nil {
			t.Fatalf("Order(%v): %v", d, err)
		}
		place := map[int]int{}
		for i, block := range list {
			if _, twice := place[block]; twice || delayAt(d, block) {
				t.Fatalf("Order(%v) = %v, with %d", d, list, block)
			}
			place[block] = i
			for _, arg := range partsOf(d, block) {
				if at, is := place[arg]; !delayAt(d, arg) && (!is || at >= i) {
					t.Fatalf("Order(%v) = %v: %d does not stand behind %d", d, list, block, arg)
				}
			}
		}
		if len(list)+len(delaysOf(d)) != len(d.Blocks) {
			t.Fatalf("Order(%v) = %v: some are missing", d, list)
		}
	}
}

// P10.1, as a law: of all orders with each block behind its arguments, Order is lexicographically the least one.
func TestOrderIsTheLeastOne(t *testing.T) {
	small(3, func(d api.Diagram) {
		list, err := Order(d)
		if err != nil {
			return
		}
		ordered(d, nil, func(other []int) {
			if slices.Compare(other, list) < 0 {
				t.Fatalf("Order(%v) = %v, but %v is less", d, list, other)
			}
		})
	})
}

// ordered extends a list of blocks in all ways to an order of all blocks other than delays.
func ordered(d api.Diagram, list []int, use func([]int)) {
	if len(list)+len(delaysOf(d)) == len(d.Blocks) {
		use(list)
		return
	}
	for i := range d.Blocks {
		waits := func(arg int) bool { return !delayAt(d, arg) && !slices.Contains(list, arg) }
		if waits(i) && !slices.ContainsFunc(partsOf(d, i), waits) {
			ordered(d, append(slices.Clone(list), i), use)
		}
	}
}

// P10.2: what is refused with ErrCycle has a circle without a delay; and nothing else is refused.
func TestRefusedDiagramsHaveCircles(t *testing.T) {
	refused, list := 0, diagrams(12)
	small(3, func(d api.Diagram) { list = append(list, d) })
	for _, d := range list {
		err := Check(d)
		if err == nil {
			continue
		}
		if !goesRound(d) || err != api.ErrCycle {
			t.Fatalf("Check(%v) = %v", d, err)
		}
		refused++
	}
	if refused < 100 {
		t.Errorf("only %d diagrams are refused", refused)
	}
}

// goesRound walks from blocks to arguments, and reports whether some walk without a delay goes on for more steps than there are blocks.
func goesRound(d api.Diagram) bool {
	walkers := map[int]bool{}
	for i := range d.Blocks {
		walkers[i] = !delayAt(d, i)
	}
	for range d.Blocks {
		next := map[int]bool{}
		for i, is := range walkers {
			for _, arg := range partsOf(d, i) {
				if is && !delayAt(d, arg) {
					next[arg] = true
				}
			}
		}
		walkers = next
	}
	return len(walkers) > 0
}

// P10.2: a delay at any place breaks a circle.
func TestDelaysBreakCircles(t *testing.T) {
	for n := 1; n <= api.MaxBlocks; n++ {
		d := api.Diagram{Blocks: make([]api.Block, n)}
		for i := range n {
			d.Blocks[i] = api.Block{Kind: api.BlockNeg, Args: []int{(i + 1) % n}}
		}
		refuseAll(t, d, api.ErrCycle)
		for i := range n {
			broken := copied(d)
			broken.Blocks[i].Kind = api.BlockDelay
			var want []int
			for step := 1; step < n; step++ {
				want = append(want, (i-step+n)%n)
			}
			list, err := Order(broken)
			checkList(t, "Order", broken, list, err, want...)
		}
	}
}

// P10.3: a pruned diagram is accepted, and pruned again it stays the same.
func TestPrunedDiagrams(t *testing.T) {
	smaller := 0
	for _, d := range accepted(13) {
		pruned, kept, err := Prune(d)
		if err != nil {
			t.Fatalf("Prune(%v): %v", d, err)
		}
		if err := Check(pruned); err != nil {
			t.Fatalf("Prune(%v) = %v, which is refused: %v", d, pruned, err)
		}
		var all []int
		for i := range pruned.Blocks {
			all = append(all, i)
		}
		checkPrune(t, pruned, pruned, all...)
		if len(kept) > 0 && len(kept) < len(d.Blocks) {
			smaller++
		}
	}
	if smaller < 100 {
		t.Errorf("only %d diagrams get smaller", smaller)
	}
}

// P10.3: the blocks that are kept depend on the same ones as before.
func TestPrunedBlocksUseTheSame(t *testing.T) {
	for _, d := range accepted(14) {
		pruned, kept, err := Prune(d)
		if err != nil {
			t.Fatalf("Prune(%v): %v", d, err)
		}
		for i, old := range kept {
			before, err := Uses(d, old)
			if err != nil {
				t.Fatalf("Uses(%v, %d): %v", d, old, err)
			}
			after, err := Uses(pruned, i)
			for place, block := range after {
				after[place] = kept[block]
			}
			checkList(t, "Uses after Prune", d, after, err, before...)
		}
	}
}

/- The fixed-point machine: Writes by the code. -/
import Derived.Test.YtkocmdpfknoiaaaGreatDoorKdl
import Derived.Test.YtkocmdpfknoiaaaGreatDoorKwm
import Derived.Test.YtkocmdpfknoiaaaGreatDoorShelf
import Derived.Sort.OwnSortedInts
namespace Go.Proofs.YtkocmdpfknoiaaaGreatDoor
open Go Go.RowKit Go.Sort Go.Lib

abbrev vI (zs : List Int) : List Value := zs.map (Value.int .i64)
/-- A list of the function's own, by its numbers. -/
def OwZ (w : World) (base : Nat) (A : Option Addr) (c : Nat) (zs : List Int) : Prop := w.ownsRow base 3 1 (.slice A zs.length c) zs.length (vI zs)
theorem ivs_map (F : Nat → Int) : ∀ n, ivs F n = vI ((List.range n).map F)
  | 0 => rfl
  | n + 1 => by
    show ivs F n ++ [I (F n)] = _
    rw [ivs_map F n, List.range_succ]; simp [vI]
theorem OwI.owZ {w : World} {base c n : Nat} {A : Option Addr} {F : Nat → Int} (h : OwI w base A c F n) : OwZ w base A c ((List.range n).map F) := by
  unfold OwZ; rw [← ivs_map]
  have e : ((List.range n).map F).length = n := by simp
  rw [e]; exact h
theorem sortZ_any {w : World} {base c : Nat} {A : Option Addr} {zs : List Int} (h : OwZ w base A c zs) (hl : zs.length ≤ 1000) :
    Calls Tryz.prog 79 #[.slice A zs.length c] w fun e w' => e = .returned (.tuple #[]) ∧ OwZ w' base A c (zs.mergeSort fun x y => decide (x ≤ y)) ∧ w.grownBy w' (Value.slice A zs.length c).ownBlock := by
  have hlen : (zs.mergeSort fun x y => decide (x ≤ y)).length = zs.length := List.length_mergeSort _
  rcases h.2 with ⟨e, h0⟩ | ⟨g, cap, cur, e, hb, hblk, hn, hcm, hcs, ht⟩
  · have hL : zs = [] := List.eq_nil_of_length_eq_zero h0
    subst hL
    refine (Tryz.slices_Sort_int_none A c w).mono fun e w' ⟨h1, h2⟩ => ?_
    subst h2
    exact ⟨h1, by simpa using h, ⟨rfl, rfl, rfl, Nat.le_refl _, fun _ _ _ => rfl⟩⟩
  · injection e with e1 e2 e3
    subst e1; subst e3
    rw [Nat.mul_one] at ht
    have hH := holds_of_blockI hblk ht
    have hc := Tryz.slices_Sort_int g 0 c zs w hH (Array.getElem?_eq_some_iff.1 hblk).1 (by omega)
    refine hc.mono fun e w' ⟨h1, n, os, h2⟩ => ?_
    subst h2
    refine ⟨h1, ?_, grownBy_sortedI _⟩
    have := ownsRow_sortedI (w := w) (base := base) (g := g) (cap := c) (n := n) (os := os) (ss := zs) (ts := zs.mergeSort fun x y => decide (x ≤ y)) hlen hb hblk hn hcm hcs
    unfold OwZ
    rw [hlen]
    exact this
theorem grow_nil (w : World) : grow w #[] = w := by simp [grow]
theorem compactZ_any {w : World} {base c : Nat} {A : Option Addr} {zs : List Int} (h : OwZ w base A c zs) (hl : zs.length ≤ 1000) :
    Calls Tryz.prog 80 #[.slice A zs.length c] w fun e w' => e = .returned (.slice A (compact zs).length c) ∧ Ri w' A (compact zs).length (fun i => (compact zs).getD i 0) ∧ w.grownBy w' (Value.slice A zs.length c).ownBlock := by
  rcases h.2 with ⟨e, h0⟩ | ⟨g, cap, cur, e, hb, hblk, hn, hcm, hcs, ht⟩
  · have hL : zs = [] := List.eq_nil_of_length_eq_zero h0
    subst hL
    refine (Tryz.slices_Compact_int_empty A c w).mono fun e w' ⟨h1, h2⟩ => ?_
    subst h2
    have e0 : compact ([] : List Int) = [] := rfl
    rw [e0]
    exact ⟨h1, fun hh => absurd hh (by simp), ⟨rfl, rfl, rfl, Nat.le_refl _, fun _ _ _ => rfl⟩⟩
  · injection e with e1 e2 e3
    subst e1; subst e3
    rw [Nat.mul_one] at ht
    have hH := holds_of_blockI hblk ht
    have hc := Tryz.slices_Compact_int g 0 c zs w hH (by omega) hn
    have hcl : (compact zs).length ≤ zs.length := by
      show (compactUpTo zs.toArray zs.length).length ≤ _
      unfold compactUpTo
      rw [List.length_map]
      exact Nat.le_trans (List.length_filter_le _ _) (by simp)
    refine hc.mono fun e w' ⟨h1, q, h2⟩ => ?_
    have ts : ((compact zs ++ List.replicate (zs.length - (compact zs).length) 0)).length = zs.length := by simp; omega
    have ow := ownsRow_sortedI (w := w) (base := base) (g := g) (cap := c) (n := q) (os := #[]) (ss := zs) (ts := compact zs ++ List.replicate (zs.length - (compact zs).length) 0) ts hb hblk hn hcm hcs
    have gr := grownBy_sortedI (w := w) (g := g) (n := q) (os := #[]) ((compact zs ++ List.replicate (zs.length - (compact zs).length) 0).toArray)
    rw [grow_nil, ← h2] at ow gr
    refine ⟨h1, fun h0 => ⟨g, 0, rfl, ?_, fun i hi => ?_⟩, gr⟩
    · exact (World.ownsRow.lt ow g rfl).2
    · rw [Nat.zero_add, World.ownsRow.cellAt ow i (by omega)]
      rw [List.getElem?_map, List.getElem?_append_left hi, List.getElem?_eq_getElem hi]
      simp [List.getD, List.getElem?_eq_getElem hi]
end Go.Proofs.YtkocmdpfknoiaaaGreatDoor

/- Diagrams: the library's Sort on lists that are made. -/
import Derived.Test.YtgajibdmihdkcaaDoorDgk
import Derived.Test.YtgajibdmihdkcaaDoorShelf
import Derived.Sort.OwnSortedInts
namespace Go.Proofs.YtgajibdmihdkcaaDoor
open Go Go.RowKit Go.Sort

def zI (L : List Nat) : List Int := L.map fun (i : Nat) => (i : Int)
theorem nI_zI (L : List Nat) : nI L = (zI L).map (Value.int .i64) := by simp [nI, zI]
theorem sorted_zI {L S : List Nat} (hp : S.Perm L) (hs : S.Pairwise (· < ·)) : ((zI L).mergeSort fun x y => decide (x ≤ y)) = zI S := by
  refine List.Perm.eq_of_pairwise (le := fun a b : Int => a ≤ b) (fun a b _ _ h1 h2 => by omega) ?_ ?_ ?_
  · have := List.pairwise_mergeSort (le := fun x y : Int => decide (x ≤ y)) (fun a b c h1 h2 => by simp at *; omega) (fun a b => by simp; omega) (zI L)
    exact this.imp fun h => by simpa using h
  · unfold zI
    rw [List.pairwise_map]
    exact hs.imp fun h => by omega
  · exact (List.mergeSort_perm _ _).trans (hp.symm.map _)

theorem sort_any : SortC := by
  intro w base c A L S h hp hs hl
  rcases h.2 with ⟨e, h0⟩ | ⟨g, cap, cur, e, hb, hblk, hn, hcm, hcs, ht⟩
  · have hL : L = [] := List.eq_nil_of_length_eq_zero h0
    subst hL
    have hS : S = [] := List.perm_nil.1 hp
    subst hS
    refine (Tryd.slices_Sort_int_none A c w).mono fun e w' ⟨h1, h2⟩ => ?_
    subst h2
    exact ⟨h1, h, ⟨rfl, rfl, rfl, Nat.le_refl _, fun _ _ _ => rfl⟩⟩
  · injection e with e1 e2 e3
    subst e1; subst e3
    have hz : (zI L).length = L.length := by simp [zI]
    rw [Nat.mul_one, nI_zI, ← hz] at ht
    have hH := holds_of_blockI hblk ht
    have hc := Tryd.slices_Sort_int g 0 c (zI L) w hH (Array.getElem?_eq_some_iff.1 hblk).1 (by rw [hz]; omega)
    rw [hz, sorted_zI hp hs] at hc
    refine hc.mono fun e w' ⟨h1, n, os, h2⟩ => ?_
    subst h2
    refine ⟨h1, ?_, grownBy_sortedI _⟩
    have hlen : S.length = L.length := hp.length_eq
    have := ownsRow_sortedI (w := w) (base := base) (g := g) (cap := c) (n := n) (os := os) (ss := zI L) (ts := zI S) (by simp [zI, hlen]) hb hblk (by rw [hz]; exact hn) hcm hcs
    rw [hz] at this
    unfold OwL
    rw [hlen, nI_zI]
    exact this
end Go.Proofs.YtgajibdmihdkcaaDoor

/- Diagrams: has, blocks, Order, Delays by the reference. -/
import Derived.Test.YtcdkkohklhmpgaaDoorDgt
namespace Go.Proofs.YtcdkkohklhmpgaaDoor

/-! ### Dgu -/
section
open Go Go.RowKit

theorem inL_iff {L : List Nat} {n : Nat} : inL L n = true ↔ n ∈ L := by simp [inL]
/-! ### Order -/
def okS (D : Dia) (L : List Nat) (i : Nat) : Nat → Bool := fun j => inL L (sr D i j) || isD D (sr D i j)
theorem allN_0 (q : Nat → Bool) : allN 0 q = true := rfl
theorem allN_s (n : Nat) (q : Nat → Bool) : allN (n + 1) q = (allN n q && q n) := by
  rw [Bool.eq_iff_iff, Bool.and_eq_true, allN_iff, allN_iff]
  exact ⟨fun h => ⟨fun i hi => h i (by omega), h n (by omega)⟩, fun h i hi => by
    by_cases e : i = n
    · subst e; exact h.2
    · exact h.1 i (by omega)⟩
theorem rdy_of {D : Dia} {L : List Nat} {i : Nat} (h1 : inL L i = false) (h2 : isD D i = false) : rdy D (inL L) i = allN (ns D i) (okS D L i) := by unfold rdy; rw [h1, h2]; rfl
theorem rdy_no1 {D : Dia} {L : List Nat} {i : Nat} (h : isD D i = true) : rdy D (inL L) i = false := by unfold rdy; rw [h]; simp
theorem rdy_no2 {D : Dia} {L : List Nat} {i : Nat} (h : inL L i = true) : rdy D (inL L) i = false := by unfold rdy; rw [h]; rfl
/-- What the reference's loop keeps. -/
structure ROrd (W w : World) (gl : Nat) (D : Dia) (A : Option Addr) (c : Nat) (L : List Nat) : Prop where
  ext : Ext W w
  glz : W.heap.size = gl
  own : OwL w gl A c L
  inv : OrdI D L
end

/-! ### Dgv -/
section
open Go Go.RowKit

theorem ord_del_le (D : Dia) : (ordL D).length + (delL D).length ≤ D.nb := by
  have h := (ord_end D).1
  have h2 := h.len
  have h3 : cnt D.nb (isD D) ≤ cnt D.nb (fun i => !inL (ordL D) i) := cnt_mono fun i _ hd => by
    cases q : inL (ordL D) i with
    | false => rfl
    | true => have := (h.lt i q).2; rw [hd] at this; cases this
  unfold delL
  rw [mkL_len]; omega
end

end Go.Proofs.YtcdkkohklhmpgaaDoor

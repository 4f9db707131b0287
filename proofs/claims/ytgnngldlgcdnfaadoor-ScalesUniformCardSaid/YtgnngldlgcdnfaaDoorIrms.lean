/- The reference's span of two and of four numbers. -/
import Derived.Test.YtgnngldlgcdnfaaDoorIrsp
import Derived.Test.YtgnngldlgcdnfaaDoorIvcx
import Derived.Test.YtgnngldlgcdnfaaDoorRefmo
import Derived.Deep.RegionHeld3
import Derived.Deep.DeepCutAuto
namespace Go.Proofs.YtgnngldlgcdnfaaDoor

/-! ### Irs2 -/
section
open Go.RowKit

theorem nth_0 {w : World} {g : Nat} {n : Bool} {A A' : Option Addr} {k c c' : Nat} {d : Int} {x : DV} (h0 : w.cell? ⟨g, 0, none⟩ = some (.bool n)) (h1 : w.cell? ⟨g, 1, none⟩ = some (.slice A k c)) (h2 : w.cell? ⟨g, 2, none⟩ = some (I d)) (hd : Dy w n A k c d x A' c') : Nth w g 0 n A k c d x A' c' := ⟨⟨h0, h1, h2⟩, hd⟩
def S6 (w : World) (g : Nat) (v0 v1 v2 v3 v4 v5 : Value) : Prop := w.cell? ⟨g, 0, none⟩ = some v0 ∧ w.cell? ⟨g, 1, none⟩ = some v1 ∧ w.cell? ⟨g, 2, none⟩ = some v2 ∧ w.cell? ⟨g, 3, none⟩ = some v3 ∧ w.cell? ⟨g, 4, none⟩ = some v4 ∧ w.cell? ⟨g, 5, none⟩ = some v5
theorem S6.new (w : World) (v0 v1 v2 v3 v4 v5 : Value) (t : TypeId) : S6 (w.alloc (.cells #[v0, v1, v2, v3, v4, v5] t)) w.heap.size v0 v1 v2 v3 v4 v5 := (B6.new w v0 v1 v2 v3 v4 v5 t).1
def S12 (w : World) (g : Nat) (v0 v1 v2 v3 v4 v5 v6 v7 v8 v9 v10 v11 : Value) : Prop := S6 w g v0 v1 v2 v3 v4 v5 ∧ w.cell? ⟨g, 6, none⟩ = some v6 ∧ w.cell? ⟨g, 7, none⟩ = some v7 ∧ w.cell? ⟨g, 8, none⟩ = some v8 ∧ w.cell? ⟨g, 9, none⟩ = some v9 ∧ w.cell? ⟨g, 10, none⟩ = some v10 ∧ w.cell? ⟨g, 11, none⟩ = some v11
theorem S12.new (w : World) (v0 v1 v2 v3 v4 v5 v6 v7 v8 v9 v10 v11 : Value) (t : TypeId) : S12 (w.alloc (.cells #[v0, v1, v2, v3, v4, v5, v6, v7, v8, v9, v10, v11] t)) w.heap.size v0 v1 v2 v3 v4 v5 v6 v7 v8 v9 v10 v11 :=
  ⟨⟨by go_simp, by go_simp, by go_simp, by go_simp, by go_simp, by go_simp⟩, by go_simp, by go_simp, by go_simp, by go_simp, by go_simp, by go_simp⟩
def pk2 {α : Type} (a b : α) (i : Nat) : α := if i = 0 then a else b
def pk4 {α : Type} (a b c d : α) (i : Nat) : α := if i = 0 then a else if i = 1 then b else if i = 2 then c else d
theorem span2 {w : World} {n0 n1 : Bool} {A0 A0' A1 A1' : Option Addr} {k0 c0 c0' k1 c1 c1' : Nat} {d0 d1 : Int} {x y : DV} {g : Nat} (hx : Dy w n0 A0 k0 c0 d0 x A0' c0') (hy : Dy w n1 A1 k1 c1 d1 y A1' c1') (bx : Bdd x) (by' : Bdd y)
    (hs : S6 w g (.bool n0) (.slice A0 k0 c0) (I d0) (.bool n1) (.slice A1 k1 c1) (I d1)) : Calls Tryd.prog 50 #[.slice (some ⟨g, 0, none⟩) 2 2] w (IvRes (lo2 x y) (hi2 x y) w) := by
  obtain ⟨h0, h1, h2, h3, h4, h5⟩ := hs
  exact span_any (N := 1) (ng := pk2 n0 n1) (As := pk2 A0 A1) (A' := pk2 A0' A1') (ns := pk2 k0 k1) (cs := pk2 c0 c1) (c' := pk2 c0' c1') (dn := pk2 d0 d1) (D := pk2 x y) (g := g)
    (fun i hi => by
      obtain rfl | rfl : i = 0 ∨ i = 1 := by omega
      · exact ⟨⟨h0, h1, h2⟩, hx⟩
      · exact ⟨⟨h3, h4, h5⟩, hy⟩)
    (fun i hi => by
      obtain rfl | rfl : i = 0 ∨ i = 1 := by omega
      · exact bx
      · exact by') (World.block_lt_of_cell? w _ h0) (by omega) (by omega)
theorem span4 {w : World} {n0 n1 n2 n3 : Bool} {A0 A0' A1 A1' A2 A2' A3 A3' : Option Addr} {k0 c0 c0' k1 c1 c1' k2 c2 c2' k3 c3 c3' : Nat} {d0 d1 d2 d3 : Int} {x y z u : DV} {g : Nat} (hx : Dy w n0 A0 k0 c0 d0 x A0' c0') (hy : Dy w n1 A1 k1 c1 d1 y A1' c1') (hz : Dy w n2 A2 k2 c2 d2 z A2' c2') (hu : Dy w n3 A3 k3 c3 d3 u A3' c3') (bx : Bdd x) (by' : Bdd y) (bz : Bdd z) (bu : Bdd u)
    (hs : S12 w g (.bool n0) (.slice A0 k0 c0) (I d0) (.bool n1) (.slice A1 k1 c1) (I d1) (.bool n2) (.slice A2 k2 c2) (I d2) (.bool n3) (.slice A3 k3 c3) (I d3)) : Calls Tryd.prog 50 #[.slice (some ⟨g, 0, none⟩) 4 4] w (IvRes (lo4 x y z u) (hi4 x y z u) w) := by
  obtain ⟨⟨h0, h1, h2, h3, h4, h5⟩, h6, h7, h8, h9, h10, h11⟩ := hs
  exact span_any (N := 3) (ng := pk4 n0 n1 n2 n3) (As := pk4 A0 A1 A2 A3) (A' := pk4 A0' A1' A2' A3') (ns := pk4 k0 k1 k2 k3) (cs := pk4 c0 c1 c2 c3) (c' := pk4 c0' c1' c2' c3') (dn := pk4 d0 d1 d2 d3) (D := pk4 x y z u) (g := g)
    (fun i hi => by
      obtain rfl | rfl | rfl | rfl : i = 0 ∨ i = 1 ∨ i = 2 ∨ i = 3 := by omega
      · exact ⟨⟨h0, h1, h2⟩, hx⟩
      · exact ⟨⟨h3, h4, h5⟩, hy⟩
      · exact ⟨⟨h6, h7, h8⟩, hz⟩
      · exact ⟨⟨h9, h10, h11⟩, hu⟩)
    (fun i hi => by
      obtain rfl | rfl | rfl | rfl : i = 0 ∨ i = 1 ∨ i = 2 ∨ i = 3 := by omega
      · exact bx
      · exact by'
      · exact bz
      · exact bu) (World.block_lt_of_cell? w _ h0) (by omega) (by omega)
/-- Bounds of what is made of two ends. -/
theorem bd_end {a : DV} (h : End a) : Bdd a := ⟨h.1, Nat.le_trans h.2 (by decide)⟩
theorem bd_mul {a x : DV} (h : len a.m ≤ 1048576) (k : len x.m ≤ 1048576) : Bdd (mulD a x) := ⟨mulD_ok _ _, by have := lim_mul a x; omega⟩
theorem bd_add {a x : DV} (h : End a) (k : End x) : Bdd (addD a x) := ⟨addD_ok _ _, by have := lim_add (a := a) (b := x) h.1.2.1 k.1.2.1; have := h.2; have := k.2; omega⟩
theorem Bdd.lim {a : DV} (h : Bdd a) : len a.m ≤ 16777216 := Nat.le_trans h.2 (by decide)
theorem bd_of (n : Int) (h1 : -9223372036854775808 ≤ n) (h2 : n ≤ 9223372036854775807) : Bdd (ofI n 0) := ⟨ofI_ok _ _, Nat.le_trans (len_mono (mkD_m_le _ _ _)) (Nat.le_trans (len_le (n := 2) (by unfold pB; omega)) (by decide))⟩
end

/-! ### Irmu -/
section
open Go.RowKit
attribute [local go_sem ↓] Go.wp_at_zero Go.wp_at_succ


end

/-! ### Irsc -/
section
open Go.RowKit
attribute [local go_sem ↓] Go.wp_at_zero Go.wp_at_succ


theorem lo4_pp (p q : DV) : lo4 p p q q = lo2 p q := by
  unfold lo4 lo2; rw [minD_self]
  by_cases h : 0 < cmpD p q
  · rw [show minD p q = q by unfold minD; rw [if_pos h], minD_self]
  · rw [show minD p q = p by unfold minD; rw [if_neg h]]; unfold minD; rw [if_neg h]
theorem hi4_pp (p q : DV) : hi4 p p q q = hi2 p q := by
  unfold hi4 hi2; rw [maxD_self]
  by_cases h : cmpD p q < 0
  · rw [show maxD p q = q by unfold maxD; rw [if_pos h], maxD_self]
  · rw [show maxD p q = p by unfold maxD; rw [if_neg h]]; unfold maxD; rw [if_neg h]


end

end Go.Proofs.YtgnngldlgcdnfaaDoor

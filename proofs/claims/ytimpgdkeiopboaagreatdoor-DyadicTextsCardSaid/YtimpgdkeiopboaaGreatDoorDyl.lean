/- Numbers as structs: sums. -/
import Derived.Test.YtimpgdkeiopboaaGreatDoorMdyf
namespace Go.Proofs.YtimpgdkeiopboaaGreatDoor
open Go.RowKit
attribute [local go_sem ↓] Go.wp_at_zero Go.wp_at_succ

theorem add_same {a b : DV} (h : a.neg = b.neg) : addD a b = mkD a.neg (al a (max a.den b.den) + al b (max a.den b.den)) (max a.den b.den) := by unfold addD; rw [if_pos h]
theorem add_lt {a b : DV} (h : a.neg ≠ b.neg) (h2 : al a (max a.den b.den) < al b (max a.den b.den)) : addD a b = mkD b.neg (al b (max a.den b.den) - al a (max a.den b.den)) (max a.den b.den) := by unfold addD; rw [if_neg h, if_pos h2]
theorem add_ge {a b : DV} (h : a.neg ≠ b.neg) (h2 : ¬ al a (max a.den b.den) < al b (max a.den b.den)) : addD a b = mkD a.neg (al a (max a.den b.den) - al b (max a.den b.den)) (max a.den b.den) := by unfold addD; rw [if_neg h, if_neg h2]
theorem cmpF_lt0 {x y : Nat} : cmpF x y < 0 ↔ x < y := by
  unfold cmpF
  by_cases h : x < y
  · simp [h]
  · by_cases h2 : y < x <;> simp [h, h2]
theorem keepT {w w0 w' : World} {a b : DV} {A B : Option Addr} {ca cb : Nat} (h : Two w a b A B ca cb w0) (e : Ext w0 w') : Two w a b A B ca cb w' := ⟨h.1.trans e, h.2.1.ext e, h.2.2.1.ext e, h.2.2.2.ext e⟩
theorem len_add (x y : Nat) : len (x + y) ≤ max (len x) (len y) + 1 := by
  refine len_le ?_
  have h1 := lt_pB (m := x) (n := max (len x) (len y)) (by omega)
  have h2 := lt_pB (m := y) (n := max (len x) (len y)) (by omega)
  rw [pB_succ]; omega

end Go.Proofs.YtimpgdkeiopboaaGreatDoor

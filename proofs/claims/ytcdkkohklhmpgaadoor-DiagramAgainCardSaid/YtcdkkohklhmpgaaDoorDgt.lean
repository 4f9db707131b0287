/- Diagrams: block by the reference. -/
import Derived.Test.YtcdkkohklhmpgaaDoorDgr
namespace Go.Proofs.YtcdkkohklhmpgaaDoor
open Go Go.RowKit

theorem cls {k : Int} (h0 : 0 ≤ k) (h1 : k ≤ 11) :
    ((k == 0) = true ∧ (k == 11) = false ∧ (k == 1) = false ∧ (k == 2) = false ∧ (k == 6) = false ∧ usesV k = false) ∨ ((k == 0) = false ∧ (k == 11) = true ∧ (k == 1) = false ∧ (k == 2) = false ∧ (k == 6) = false ∧ usesV k = true) ∨
    ((k == 0) = false ∧ (k == 11) = false ∧ (k == 1) = true ∧ (k == 2) = false ∧ (k == 6) = false ∧ usesV k = true) ∨ ((k == 0) = false ∧ (k == 11) = false ∧ (k == 1) = false ∧ (k == 2) = true ∧ (k == 6) = false ∧ usesV k = true) ∨
    ((k == 0) = false ∧ (k == 11) = false ∧ (k == 1) = false ∧ (k == 2) = false ∧ (k == 6) = true ∧ usesV k = true) ∨ ((k == 0) = false ∧ (k == 11) = false ∧ (k == 1) = false ∧ (k == 2) = false ∧ (k == 6) = false ∧ usesV k = false) := by
  have : k = 0 ∨ k = 1 ∨ k = 2 ∨ k = 3 ∨ k = 4 ∨ k = 5 ∨ k = 6 ∨ k = 7 ∨ k = 8 ∨ k = 9 ∨ k = 10 ∨ k = 11 := by omega
  rcases this with rfl | rfl | rfl | rfl | rfl | rfl | rfl | rfl | rfl | rfl | rfl | rfl <;> decide
theorem rar_in {k : Int} (h0 : 0 ≤ k) (h1 : k ≤ 11) : rar k = arity k := by unfold rar; rw [if_neg (by omega)]
theorem gtS_cm {n e m f : Int} : decide (0 < cmS n e m f) = gtS n e m f := by
  unfold cmS gtS tS
  by_cases h1 : n * 2 ^ (e + 62).toNat < m * 2 ^ (f + 62).toNat
  · rw [if_pos h1, decide_eq_false (by omega), decide_eq_false (by omega)]
  · rw [if_neg h1]
    by_cases h2 : m * 2 ^ (f + 62).toNat < n * 2 ^ (e + 62).toNat
    · rw [if_pos h2, decide_eq_true (by omega), decide_eq_true h2]
    · rw [if_neg h2, decide_eq_false (by omega), decide_eq_false h2]
section
variable {w : World} {D : Dia} {p : Pl} {b : Blk} {A : Option Addr} {c : Nat}
end
end Go.Proofs.YtcdkkohklhmpgaaDoor

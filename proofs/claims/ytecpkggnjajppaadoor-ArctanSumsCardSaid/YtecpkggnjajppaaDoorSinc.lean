/- The reference of package sine, the table, and the laws that ask for them. -/
import Derived.Test.YtecpkggnjajppaaDoorSinb
import Derived.Laws.Rows
import Derived.Deep.WholeRow
import Derived.Great.BuildSlice
namespace Go.Proofs.YtecpkggnjajppaaDoor
open Go.RowKit

/-- A new list of the table's numbers. -/
def NewT (w : World) (e : Ending) (w' : World) : Prop :=
  ∃ b, w.heap.size ≤ b ∧ b < w'.heap.size ∧ e = .returned (.slice (some ⟨b, 0, none⟩) 65 65) ∧ (∀ i : Nat, i < 65 → w'.cell? ⟨b, i, none⟩ = some (I (T i)) ∧ w'.frozen? ⟨b, i, none⟩ = false) ∧ Ext w w'

/-- The table's cells. -/
def tabC : Array Value := ((List.range 65).map fun (k : Nat) => I (T k)).toArray
theorem tabC_size : tabC.size = 65 := by simp [tabC]
theorem tabC_at (i : Nat) (h : i < 65) : tabC[i]? = some (I (T i)) := by simp [tabC, h]
theorem new_cell (w : World) (c : Array Value) (t : TypeId) (i : Nat) : (w.alloc (.cells c t)).cell? ⟨w.heap.size, i, none⟩ = c[i]? := cell_of_row _ _ i c t (0, 0) (heap_alloc_last w _)
theorem new_soft (w : World) (c : Array Value) (t : TypeId) (i : Nat) : (w.alloc (.cells c t)).frozen? ⟨w.heap.size, i, none⟩ = false := by
  unfold World.frozen?
  rw [show (w.alloc (.cells c t)).heap[w.heap.size]? = some (.cells c t (0, 0)) from heap_alloc_last w _]
  simp
theorem newT_of (w : World) (t : TypeId) : NewT w (.returned (.slice (some ⟨w.heap.size, 0, none⟩) 65 65)) (w.alloc (.cells tabC t)) :=
  ⟨w.heap.size, Nat.le_refl _, by simp, rfl, fun i hi => ⟨by rw [new_cell]; exact tabC_at i hi, new_soft w tabC t i⟩, Ext.alloc _ _⟩

set_option maxRecDepth 100000 in
set_option maxHeartbeats 1000000 in
theorem rtable_any (w : World) : Calls Tryd.prog 34 #[] w (NewT w) := by
  have hN := newT_of w 3
  go_enter Tryd.func34, Tryd.ntmps34
  go_wp2
  go_ret
  exact hN

end Go.Proofs.YtecpkggnjajppaaDoor

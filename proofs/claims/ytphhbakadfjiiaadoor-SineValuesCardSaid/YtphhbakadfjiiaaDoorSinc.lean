/- The reference of package sine, the table, and the laws that ask for them. -/
import Derived.Test.YtphhbakadfjiiaaDoorSinb
import Derived.Laws.Rows
import Derived.Deep.WholeRow
import Derived.Great.BuildSlice
namespace Go.Proofs.YtphhbakadfjiiaaDoor
open Go.RowKit

/-- A new list of the table's numbers. -/
def NewT (w : World) (e : Ending) (w' : World) : Prop :=
  ∃ b, w.heap.size ≤ b ∧ b < w'.heap.size ∧ e = .returned (.slice (some ⟨b, 0, none⟩) 65 65) ∧ (∀ i : Nat, i < 65 → w'.cell? ⟨b, i, none⟩ = some (I (T i)) ∧ w'.frozen? ⟨b, i, none⟩ = false) ∧ Ext w w'

/-- The table's cells. -/
def tabC : Array Value := ((List.range 65).map fun (k : Nat) => I (T k)).toArray
theorem tabC_size : tabC.size = 65 := by simp [tabC]
theorem tabC_at (i : Nat) (h : i < 65) : tabC[i]? = some (I (T i)) := by simp [tabC, h]
theorem new_cell (w : World) (c : Array Value) (t : TypeId) (i : Nat) : (w.alloc (.cells c t)).cell? ⟨w.heap.size, i, none⟩ = c[i]? := cell_of_row _ _ i c t (0, 0) (heap_alloc_last w _)
theorem new_soft (w : World) (c : Array Value) (t : TypeId) (i : Nat) : (w.alloc (.cells c t)).frozen? ⟨w.heap.size, i, none⟩ = false := by
  unfold World.frozen?
  rw [show (w.alloc (.cells c t)).heap[w.heap.size]? = some (.cells c t (0, 0)) from heap_alloc_last w _]
  simp
theorem newT_of (w : World) (t : TypeId) : NewT w (.returned (.slice (some ⟨w.heap.size, 0, none⟩) 65 65)) (w.alloc (.cells tabC t)) :=
  ⟨w.heap.size, Nat.le_refl _, by simp, rfl, fun i hi => ⟨by rw [new_cell]; exact tabC_at i hi, new_soft w tabC t i⟩, Ext.alloc _ _⟩

set_option maxRecDepth 100000 in
set_option maxHeartbeats 1000000 in
theorem rtable_any (w : World) : Calls Tryd.prog 18 #[] w (NewT w) := by
  have hN := newT_of w 3
  go_enter Tryd.func18, Tryd.ntmps18
  go_wp2
  go_ret
  exact hN

set_option maxRecDepth 100000 in
set_option maxHeartbeats 1000000 in
theorem table_any (w : World) (hT : TabS w) : Calls Tryd.prog 16 #[] w (NewT w) := by
  obtain ⟨ty, fr, hT⟩ := hT
  replace hT : w.heap[0]? = some (.cells tabC ty fr) := hT
  have hN := newT_of w 36
  obtain ⟨tab, ht⟩ : ∃ tab, tab = tabC := ⟨_, rfl⟩
  rw [← ht] at hT hN
  have hs : tab.size = 65 := by rw [ht]; exact tabC_size
  have h1 : tab.all (·.oneCell') = true := by rw [ht]; decide +kernel
  have hi : (Tryd.prog.info? 36).map (·.size) = some tab.size := by rw [hs]; kernel_rfl
  clear ht
  obtain ⟨Z, hZ, hz⟩ : ∃ Z : Array Value, Z.size = 65 ∧ ∀ w, (zeroValue 36).run Tryd.prog w = .ok (.agg Z) w := ⟨Array.replicate 65 (I 0), by simp, fun _ => by kernel_rfl⟩
  have hold : Z.size = tab.size := by rw [hZ, hs]
  have HO := Lib.hid hold; clear hold
  have HI := Lib.hid hi; clear hi
  have H1 := Lib.hid h1; clear h1
  have HN := Lib.hid hN; clear hN
  have HT := Lib.hid hT; clear hT
  have HS := Lib.hid hs; clear hs
  clear hZ
  go_enter Tryd.func16, Tryd.ntmps16
  go_wp2_with (first
    | (refine wpList_load_row rfl 36 _ rfl 0 rfl ty _ fr _ HT.out Tryd.underlying36 rfl HI.out ?_)
    | (refine wpList_store_rowTo rfl 36 _ _ rfl rfl w.heap.size tab rfl rfl 36 Z (heap_alloc_last w _) HI.out HO.out H1.out ?_; rw [World.setRow_alloc_new]))
  go_ret
  exact HN.out

end Go.Proofs.YtphhbakadfjiiaaDoor

/- The filter of the document: how it lies in memory. -/
import Derived.Test.YtkocmdpfknoiaaaGreatDoorDgcd
import Derived.Deep.RegionHeld3
namespace Go.Proofs.YtkocmdpfknoiaaaGreatDoor
open Go Go.RowKit
attribute [local go_sem ↓] Go.wp_at_zero Go.wp_at_succ

def flD : Dia where
  ni := 1
  P := fun _ => ⟨-1, 1, 0⟩
  nb := 4
  B := fun i => if i = 0 then ⟨0, 1, fun _ => 0, 0, 0, 0, 0⟩ else if i = 1 then ⟨6, 1, fun _ => 3, 1, -1, 0, 0⟩ else if i = 2 then ⟨3, 2, fun j => if j = 0 then 0 else 1, 0, 0, 0, 0⟩ else ⟨2, 1, fun _ => 2, 0, 0, 0, 0⟩
  no := 1
  O := fun _ => 2
theorem fl_chk : chk flD = 0 := by kernel_rfl
theorem fl_del : (delL flD).length = 1 := by kernel_rfl
def flP (w : World) : Pl where
  AI := some ⟨w.heap.size + 1, 0, none⟩
  cI := 1
  AB := some ⟨w.heap.size + 7, 0, none⟩
  cB := 4
  AO := some ⟨w.heap.size + 2, 0, none⟩
  cO := 1
  AA := fun i => if i = 0 then some ⟨w.heap.size + 3, 0, none⟩ else if i = 1 then some ⟨w.heap.size + 4, 0, none⟩ else if i = 2 then some ⟨w.heap.size + 5, 0, none⟩ else some ⟨w.heap.size + 6, 0, none⟩
  cA := fun i => if i = 2 then 2 else 1
/-- The memory that the filter makes. -/
structure FlM (w w' : World) : Prop where
  ext : Ext w w'
  sz : w.heap.size + 7 < w'.heap.size
  i0 : w'.cell? ⟨w.heap.size + 1, 0, none⟩ = some (I (-1))
  i1 : w'.cell? ⟨w.heap.size + 1, 1, none⟩ = some (I 1)
  i2 : w'.cell? ⟨w.heap.size + 1, 2, none⟩ = some (I 0)
  o0 : w'.cell? ⟨w.heap.size + 2, 0, none⟩ = some (I 2)
  a0 : w'.cell? ⟨w.heap.size + 3, 0, none⟩ = some (I 0)
  a1 : w'.cell? ⟨w.heap.size + 4, 0, none⟩ = some (I 3)
  a2 : w'.cell? ⟨w.heap.size + 5, 0, none⟩ = some (I 0)
  a3 : w'.cell? ⟨w.heap.size + 5, 1, none⟩ = some (I 1)
  a4 : w'.cell? ⟨w.heap.size + 6, 0, none⟩ = some (I 2)
  row : ∃ cur, w'.heap[w.heap.size + 7]? = some (.cells cur 51 (0, 0)) ∧ cur = #[I 0, .slice (some ⟨w.heap.size + 3, 0, none⟩) 1 1, I 0, I 0, I 0, I 0, I 6, .slice (some ⟨w.heap.size + 4, 0, none⟩) 1 1, I 1, I (-1), I 0, I 0, I 3, .slice (some ⟨w.heap.size + 5, 0, none⟩) 2 2, I 0, I 0, I 0, I 0, I 2, .slice (some ⟨w.heap.size + 6, 0, none⟩) 1 1, I 0, I 0, I 0, I 0]
abbrev flV (w : World) : Value := .agg #[.slice (some ⟨w.heap.size + 1, 0, none⟩) 1 1, .slice (some ⟨w.heap.size + 7, 0, none⟩) 4 4, .slice (some ⟨w.heap.size + 2, 0, none⟩) 1 1]
def FlR (w : World) (e : Ending) (w' : World) : Prop := e = .returned (flV w) ∧ FlM w w'
set_option maxRecDepth 100000 in
set_option maxHeartbeats 2000000 in
theorem filter_any (w : World) : Calls Tryz.prog 33 #[] w (FlR w) := by
  go_enter Tryz.func33, Tryz.ntmps33
  go_wp2_with fail
  refine bodyPost_ret (v := .agg #[.slice (some ⟨w.heap.size + 1, 0, none⟩) 1 1, .slice (some ⟨w.heap.size + 1 + 1 + 1 + 1 + 1 + 1 + 1, 0, none⟩) 4 4, .slice (some ⟨w.heap.size + 1 + 1, 0, none⟩) 1 1]) (by simp [results, Tryz.results33, go_sem]) rfl ⟨rfl, ?_⟩
  refine ⟨?_, ?_, ?_, ?_, ?_, ?_, ?_, ?_, ?_, ?_, ?_, _, ?_, rfl⟩
  · exact (((((((Ext.alloc _ _).trans (Ext.alloc _ _)).trans (Ext.alloc _ _)).trans (Ext.alloc _ _)).trans (Ext.alloc _ _)).trans (Ext.alloc _ _)).trans (Ext.alloc _ _)).trans (Ext.alloc _ _)
  · simp
  · go_simp
  · go_simp
  · go_simp
  · go_simp
  · go_simp
  · go_simp
  · go_simp
  · go_simp
  · go_simp
  · have e : ∀ (W : World) (o : Obj) (n : Nat), n = W.heap.size → (W.alloc o).heap[n]? = some o := fun W o n h => h ▸ Go.Deep.blk_alloc_new W o
    exact e _ _ _ (by simp)
theorem FlM.on {w w' w2 : World} (h : FlM w w') (e : Ext w' w2) : FlM w w2 := by
  have hs := h.sz
  obtain ⟨cur, hc, hcur⟩ := h.row
  exact ⟨h.ext.trans e, Nat.lt_of_lt_of_le hs e.size, (e.old.1 _ _ (by omega)).trans h.i0, (e.old.1 _ _ (by omega)).trans h.i1, (e.old.1 _ _ (by omega)).trans h.i2, (e.old.1 _ _ (by omega)).trans h.o0, (e.old.1 _ _ (by omega)).trans h.a0,
    (e.old.1 _ _ (by omega)).trans h.a1, (e.old.1 _ _ (by omega)).trans h.a2, (e.old.1 _ _ (by omega)).trans h.a3, (e.old.1 _ _ (by omega)).trans h.a4, cur, (e.block _ (by omega)).trans hc, hcur⟩
theorem fl_cell {w : World} {g : Nat} {cur : Array Value} {t : TypeId} (h : w.heap[g]? = some (.cells cur t (0, 0))) (j : Nat) : w.cell? ⟨g, j, none⟩ = cur[j]? := by simp [World.cell?, h]
theorem FlM.dm {w w' : World} (h : FlM w w') : Dm w' flD (flP w) := by
  have hs := h.sz
  obtain ⟨cur, hc, rfl⟩ := h.row
  have hcell := fl_cell hc
  refine ⟨fun _ => ⟨_, _, rfl, by omega, fun i hi => ?_⟩, fun _ => ⟨_, _, rfl, by omega, fun i hi => ?_⟩, fun i hi => ?_, fun _ => ⟨_, _, rfl, by omega, fun i hi => ?_⟩, by show 1 ≤ _; unfold maxLen; omega, by show 4 ≤ _; unfold maxLen; omega, by show 1 ≤ _; unfold maxLen; omega, fun i hi q => ?_, fun q => (by cases q), fun q => (by cases q)⟩
  · obtain rfl : i = 0 := by have : i < 1 := hi; omega
    exact ⟨h.i0, h.i1, h.i2⟩
  · have hi3 : i = 0 ∨ i = 1 ∨ i = 2 ∨ i = 3 := by have : i < 4 := hi; omega
    rcases hi3 with rfl | rfl | rfl | rfl <;> exact ⟨hcell _, hcell _, hcell _, hcell _, hcell _, hcell _⟩
  · have hi3 : i = 0 ∨ i = 1 ∨ i = 2 ∨ i = 3 := by have : i < 4 := hi; omega
    rcases hi3 with rfl | rfl | rfl | rfl
    · refine ⟨fun _ => ⟨_, _, rfl, by omega, fun j hj => ?_⟩, by show 1 ≤ _; unfold maxLen; omega⟩
      obtain rfl : j = 0 := by have : j < 1 := hj; omega
      exact h.a0
    · refine ⟨fun _ => ⟨_, _, rfl, by omega, fun j hj => ?_⟩, by show 1 ≤ _; unfold maxLen; omega⟩
      obtain rfl : j = 0 := by have : j < 1 := hj; omega
      exact h.a1
    · refine ⟨fun _ => ⟨_, _, rfl, by omega, fun j hj => ?_⟩, by show 2 ≤ _; unfold maxLen; omega⟩
      have hj2 : j = 0 ∨ j = 1 := by have : j < 2 := hj; omega
      rcases hj2 with rfl | rfl
      · exact h.a2
      · exact h.a3
    · refine ⟨fun _ => ⟨_, _, rfl, by omega, fun j hj => ?_⟩, by show 1 ≤ _; unfold maxLen; omega⟩
      obtain rfl : j = 0 := by have : j < 1 := hj; omega
      exact h.a4
  · obtain rfl : i = 0 := by have : i < 1 := hi; omega
    exact h.o0
  · have hi3 : i = 0 ∨ i = 1 ∨ i = 2 ∨ i = 3 := by have : i < 4 := hi; omega
    rcases hi3 with rfl | rfl | rfl | rfl <;> cases q
theorem filter_any' (w : World) : Calls Tryz.prog 33 #[] w (fun e w' => e = .returned (dgv flD (flP w)) ∧ FlM w w') := (filter_any w).mono fun _ _ h => ⟨h.1, h.2⟩
end Go.Proofs.YtkocmdpfknoiaaaGreatDoor

/- Diagrams: the example of the document; the helpers of the statements. -/
import Derived.Test.YtgajibdmihdkcaaDoorDgm
namespace Go.Proofs.YtgajibdmihdkcaaDoor
open Go Go.RowKit

/-- The example; with k for the kind of its third block. -/
def exD (k : Int) : Dia where
  ni := 1
  P := fun _ => ⟨-8, 8, 0⟩
  nb := 3
  B := fun i => if i = 0 then ⟨0, 1, fun _ => 0, 0, 0, 0, 0⟩ else if i = 1 then ⟨3, 2, fun j => if j = 0 then 0 else 2, 0, 0, 0, 0⟩ else ⟨k, 1, fun _ => 1, 0, 0, 0, 0⟩
  no := 1
  O := fun _ => 1
def exP (w : World) : Pl where
  AI := some ⟨w.heap.size + 1, 0, none⟩
  cI := 1
  AB := some ⟨w.heap.size + 6, 0, none⟩
  cB := 3
  AO := some ⟨w.heap.size + 2, 0, none⟩
  cO := 1
  AA := fun i => if i = 0 then some ⟨w.heap.size + 3, 0, none⟩ else if i = 1 then some ⟨w.heap.size + 4, 0, none⟩ else some ⟨w.heap.size + 5, 0, none⟩
  cA := fun i => if i = 1 then 2 else 1
/-- The memory that the example makes. -/
structure ExM (w w' : World) (k : Int) : Prop where
  ext : Ext w w'
  sz : w.heap.size + 6 < w'.heap.size
  i0 : w'.cell? ⟨w.heap.size + 1, 0, none⟩ = some (I (-8))
  i1 : w'.cell? ⟨w.heap.size + 1, 1, none⟩ = some (I 8)
  i2 : w'.cell? ⟨w.heap.size + 1, 2, none⟩ = some (I 0)
  o0 : w'.cell? ⟨w.heap.size + 2, 0, none⟩ = some (I 1)
  a0 : w'.cell? ⟨w.heap.size + 3, 0, none⟩ = some (I 0)
  a1 : w'.cell? ⟨w.heap.size + 4, 0, none⟩ = some (I 0)
  a2 : w'.cell? ⟨w.heap.size + 4, 1, none⟩ = some (I 2)
  a3 : w'.cell? ⟨w.heap.size + 5, 0, none⟩ = some (I 1)
  row : ∃ cur, w'.heap[w.heap.size + 6]? = some (.cells cur 53 (0, 0)) ∧ cur = #[I 0, .slice (some ⟨w.heap.size + 3, 0, none⟩) 1 1, I 0, I 0, I 0, I 0, I 3, .slice (some ⟨w.heap.size + 4, 0, none⟩) 2 2, I 0, I 0, I 0, I 0, I k, .slice (some ⟨w.heap.size + 5, 0, none⟩) 1 1, I 0, I 0, I 0, I 0]
def ExR (w : World) (e : Ending) (w' : World) : Prop := e = .returned (dgv (exD 2) (exP w)) ∧ ExM w w' 2
set_option maxRecDepth 100000 in
set_option maxHeartbeats 2000000 in
theorem example_any (w : World) : Calls Tryd.prog 30 #[] w (ExR w) := by
  go_enter Tryd.func30, Tryd.ntmps30
  go_wp2_with fail
  refine bodyPost_ret (v := .agg #[.slice (some ⟨w.heap.size + 1, 0, none⟩) 1 1, .slice (some ⟨w.heap.size + 1 + 1 + 1 + 1 + 1 + 1, 0, none⟩) 3 3, .slice (some ⟨w.heap.size + 1 + 1, 0, none⟩) 1 1]) (by simp [results, Tryd.results30, go_sem]) rfl ⟨rfl, ?_⟩
  refine ⟨?_, ?_, ?_, ?_, ?_, ?_, ?_, ?_, ?_, ?_, _, ?_, rfl⟩
  · exact ((((((Ext.alloc _ _).trans (Ext.alloc _ _)).trans (Ext.alloc _ _)).trans (Ext.alloc _ _)).trans (Ext.alloc _ _)).trans (Ext.alloc _ _)).trans (Ext.alloc _ _)
  · simp
  · go_simp
  · go_simp
  · go_simp
  · go_simp
  · go_simp
  · go_simp
  · go_simp
  · go_simp
  · have e : ∀ (W : World) (o : Obj) (n : Nat), n = W.heap.size → (W.alloc o).heap[n]? = some o := fun W o n h => h ▸ Go.Deep.blk_alloc_new W o
    exact e _ _ _ (by simp)

theorem ExM.on {w w' w2 : World} {k : Int} (h : ExM w w' k) (e : Ext w' w2) : ExM w w2 k := by
  have hs := h.sz
  obtain ⟨cur, hc, hcur⟩ := h.row
  exact ⟨h.ext.trans e, Nat.lt_of_lt_of_le hs e.size, (e.old.1 _ _ (by omega)).trans h.i0, (e.old.1 _ _ (by omega)).trans h.i1, (e.old.1 _ _ (by omega)).trans h.i2, (e.old.1 _ _ (by omega)).trans h.o0, (e.old.1 _ _ (by omega)).trans h.a0,
    (e.old.1 _ _ (by omega)).trans h.a1, (e.old.1 _ _ (by omega)).trans h.a2, (e.old.1 _ _ (by omega)).trans h.a3, cur, (e.block _ (by omega)).trans hc, hcur⟩
theorem cell_of_heap {w : World} {g : Nat} {cur : Array Value} {t : TypeId} (h : w.heap[g]? = some (.cells cur t (0, 0))) (j : Nat) : w.cell? ⟨g, j, none⟩ = cur[j]? := by simp [World.cell?, h]
theorem ExM.dm {w w' : World} {k : Int} (h : ExM w w' k) : Dm w' (exD k) (exP w) := by
  have hs := h.sz
  obtain ⟨cur, hc, rfl⟩ := h.row
  have hcell := cell_of_heap hc
  refine ⟨fun _ => ⟨_, _, rfl, by omega, fun i hi => ?_⟩, fun _ => ⟨_, _, rfl, by omega, fun i hi => ?_⟩, fun i hi => ?_, fun _ => ⟨_, _, rfl, by omega, fun i hi => ?_⟩, by show 1 ≤ _; unfold maxLen; omega, by show 3 ≤ _; unfold maxLen; omega, by show 1 ≤ _; unfold maxLen; omega, fun i hi q => ?_, fun q => (by cases q), fun q => (by cases q)⟩
  · obtain rfl : i = 0 := by have : i < 1 := hi; omega
    exact ⟨h.i0, h.i1, h.i2⟩
  · have hi3 : i = 0 ∨ i = 1 ∨ i = 2 := by have : i < 3 := hi; omega
    rcases hi3 with rfl | rfl | rfl <;> exact ⟨hcell _, hcell _, hcell _, hcell _, hcell _, hcell _⟩
  · have hi3 : i = 0 ∨ i = 1 ∨ i = 2 := by have : i < 3 := hi; omega
    rcases hi3 with rfl | rfl | rfl
    · refine ⟨fun _ => ⟨_, _, rfl, by omega, fun j hj => ?_⟩, by show 1 ≤ _; unfold maxLen; omega⟩
      obtain rfl : j = 0 := by have : j < 1 := hj; omega
      exact h.a0
    · refine ⟨fun _ => ⟨_, _, rfl, by omega, fun j hj => ?_⟩, by show 2 ≤ _; unfold maxLen; omega⟩
      have hj2 : j = 0 ∨ j = 1 := by have : j < 2 := hj; omega
      rcases hj2 with rfl | rfl
      · exact h.a1
      · exact h.a2
    · refine ⟨fun _ => ⟨_, _, rfl, by omega, fun j hj => ?_⟩, by show 1 ≤ _; unfold maxLen; omega⟩
      obtain rfl : j = 0 := by have : j < 1 := hj; omega
      exact h.a3
  · obtain rfl : i = 0 := by have : i < 1 := hi; omega
    exact h.o0
  · have hi3 : i = 0 ∨ i = 1 ∨ i = 2 := by have : i < 3 := hi; omega
    rcases hi3 with rfl | rfl | rfl <;> cases q
theorem ExM.put {w w' : World} {k m : Int} (h : ExM w w' k) : ExM w (w'.setCell ⟨w.heap.size + 6, 12, none⟩ (I m)) m := by
  have hs := h.sz
  obtain ⟨cur, hc, rfl⟩ := h.row
  have ne : ∀ g i, g < w.heap.size + 6 → (w'.setCell ⟨w.heap.size + 6, 12, none⟩ (I m)).cell? ⟨g, i, none⟩ = w'.cell? ⟨g, i, none⟩ := fun g i hg => World.cell?_setCell_other _ _ _ _ (by intro e; injection e with e; omega)
  refine ⟨h.ext.set (by show _ ≤ w.heap.size + 6; omega) _, by simpa using hs, (ne _ _ (by omega)).trans h.i0, (ne _ _ (by omega)).trans h.i1, (ne _ _ (by omega)).trans h.i2, (ne _ _ (by omega)).trans h.o0, (ne _ _ (by omega)).trans h.a0,
    (ne _ _ (by omega)).trans h.a1, (ne _ _ (by omega)).trans h.a2, (ne _ _ (by omega)).trans h.a3, _, heap_setCell_same _ _ _ _ _ (I m) hc, ?_⟩
  simp
end Go.Proofs.YtgajibdmihdkcaaDoor

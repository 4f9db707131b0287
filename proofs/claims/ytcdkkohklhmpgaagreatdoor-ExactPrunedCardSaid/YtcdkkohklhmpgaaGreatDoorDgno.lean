/- Diagrams: the example of the document; the helpers of the statements. -/
import Derived.Test.YtcdkkohklhmpgaaGreatDoorDgsm
namespace Go.Proofs.YtcdkkohklhmpgaaGreatDoor

/-! ### Dgn -/
section
open Go Go.RowKit

/-- The example; with k for the kind of its third block. -/
def exD (k : Int) : Dia where
  ni := 1
  P := fun _ => ⟨-8, 8, 0⟩
  nb := 3
  B := fun i => if i = 0 then ⟨0, 1, fun _ => 0, 0, 0, 0, 0⟩ else if i = 1 then ⟨3, 2, fun j => if j = 0 then 0 else 2, 0, 0, 0, 0⟩ else ⟨k, 1, fun _ => 1, 0, 0, 0, 0⟩
  no := 1
  O := fun _ => 1
def exP (w : World) : Pl where
  AI := some ⟨w.heap.size + 1, 0, none⟩
  cI := 1
  AB := some ⟨w.heap.size + 6, 0, none⟩
  cB := 3
  AO := some ⟨w.heap.size + 2, 0, none⟩
  cO := 1
  AA := fun i => if i = 0 then some ⟨w.heap.size + 3, 0, none⟩ else if i = 1 then some ⟨w.heap.size + 4, 0, none⟩ else some ⟨w.heap.size + 5, 0, none⟩
  cA := fun i => if i = 1 then 2 else 1
/-- The memory that the example makes. -/
structure ExM (w w' : World) (k : Int) : Prop where
  ext : Ext w w'
  sz : w.heap.size + 6 < w'.heap.size
  i0 : w'.cell? ⟨w.heap.size + 1, 0, none⟩ = some (I (-8))
  i1 : w'.cell? ⟨w.heap.size + 1, 1, none⟩ = some (I 8)
  i2 : w'.cell? ⟨w.heap.size + 1, 2, none⟩ = some (I 0)
  o0 : w'.cell? ⟨w.heap.size + 2, 0, none⟩ = some (I 1)
  a0 : w'.cell? ⟨w.heap.size + 3, 0, none⟩ = some (I 0)
  a1 : w'.cell? ⟨w.heap.size + 4, 0, none⟩ = some (I 0)
  a2 : w'.cell? ⟨w.heap.size + 4, 1, none⟩ = some (I 2)
  a3 : w'.cell? ⟨w.heap.size + 5, 0, none⟩ = some (I 1)
  row : ∃ cur, w'.heap[w.heap.size + 6]? = some (.cells cur 100 (0, 0)) ∧ cur = #[I 0, .slice (some ⟨w.heap.size + 3, 0, none⟩) 1 1, I 0, I 0, I 0, I 0, I 3, .slice (some ⟨w.heap.size + 4, 0, none⟩) 2 2, I 0, I 0, I 0, I 0, I k, .slice (some ⟨w.heap.size + 5, 0, none⟩) 1 1, I 0, I 0, I 0, I 0]
def ExR (w : World) (e : Ending) (w' : World) : Prop := e = .returned (dgv (exD 2) (exP w)) ∧ ExM w w' 2
set_option maxRecDepth 100000 in
set_option maxHeartbeats 2000000 in
theorem example_any (w : World) : Calls Tryz.prog 92 #[] w (ExR w) := by
  go_enter Tryz.func92, Tryz.ntmps92
  go_wp2_with fail
  refine bodyPost_ret (v := .agg #[.slice (some ⟨w.heap.size + 1, 0, none⟩) 1 1, .slice (some ⟨w.heap.size + 1 + 1 + 1 + 1 + 1 + 1, 0, none⟩) 3 3, .slice (some ⟨w.heap.size + 1 + 1, 0, none⟩) 1 1]) (by simp [results, Tryz.results92, go_sem]) rfl ⟨rfl, ?_⟩
  refine ⟨?_, ?_, ?_, ?_, ?_, ?_, ?_, ?_, ?_, ?_, _, ?_, rfl⟩
  · exact ((((((Ext.alloc _ _).trans (Ext.alloc _ _)).trans (Ext.alloc _ _)).trans (Ext.alloc _ _)).trans (Ext.alloc _ _)).trans (Ext.alloc _ _)).trans (Ext.alloc _ _)
  · simp
  · go_simp
  · go_simp
  · go_simp
  · go_simp
  · go_simp
  · go_simp
  · go_simp
  · go_simp
  · have e : ∀ (W : World) (o : Obj) (n : Nat), n = W.heap.size → (W.alloc o).heap[n]? = some o := fun W o n h => h ▸ Go.Deep.blk_alloc_new W o
    exact e _ _ _ (by simp)

theorem ExM.on {w w' w2 : World} {k : Int} (h : ExM w w' k) (e : Ext w' w2) : ExM w w2 k := by
  have hs := h.sz
  obtain ⟨cur, hc, hcur⟩ := h.row
  exact ⟨h.ext.trans e, Nat.lt_of_lt_of_le hs e.size, (e.old.1 _ _ (by omega)).trans h.i0, (e.old.1 _ _ (by omega)).trans h.i1, (e.old.1 _ _ (by omega)).trans h.i2, (e.old.1 _ _ (by omega)).trans h.o0, (e.old.1 _ _ (by omega)).trans h.a0,
    (e.old.1 _ _ (by omega)).trans h.a1, (e.old.1 _ _ (by omega)).trans h.a2, (e.old.1 _ _ (by omega)).trans h.a3, cur, (e.block _ (by omega)).trans hc, hcur⟩
theorem cell_of_heap {w : World} {g : Nat} {cur : Array Value} {t : TypeId} (h : w.heap[g]? = some (.cells cur t (0, 0))) (j : Nat) : w.cell? ⟨g, j, none⟩ = cur[j]? := by simp [World.cell?, h]
theorem ExM.dm {w w' : World} {k : Int} (h : ExM w w' k) : Dm w' (exD k) (exP w) := by
  have hs := h.sz
  obtain ⟨cur, hc, rfl⟩ := h.row
  have hcell := cell_of_heap hc
  refine ⟨fun _ => ⟨_, _, rfl, by omega, fun i hi => ?_⟩, fun _ => ⟨_, _, rfl, by omega, fun i hi => ?_⟩, fun i hi => ?_, fun _ => ⟨_, _, rfl, by omega, fun i hi => ?_⟩, by show 1 ≤ _; unfold maxLen; omega, by show 3 ≤ _; unfold maxLen; omega, by show 1 ≤ _; unfold maxLen; omega, fun i hi q => ?_, fun q => (by cases q), fun q => (by cases q)⟩
  · obtain rfl : i = 0 := by have : i < 1 := hi; omega
    exact ⟨h.i0, h.i1, h.i2⟩
  · have hi3 : i = 0 ∨ i = 1 ∨ i = 2 := by have : i < 3 := hi; omega
    rcases hi3 with rfl | rfl | rfl <;> exact ⟨hcell _, hcell _, hcell _, hcell _, hcell _, hcell _⟩
  · have hi3 : i = 0 ∨ i = 1 ∨ i = 2 := by have : i < 3 := hi; omega
    rcases hi3 with rfl | rfl | rfl
    · refine ⟨fun _ => ⟨_, _, rfl, by omega, fun j hj => ?_⟩, by show 1 ≤ _; unfold maxLen; omega⟩
      obtain rfl : j = 0 := by have : j < 1 := hj; omega
      exact h.a0
    · refine ⟨fun _ => ⟨_, _, rfl, by omega, fun j hj => ?_⟩, by show 2 ≤ _; unfold maxLen; omega⟩
      have hj2 : j = 0 ∨ j = 1 := by have : j < 2 := hj; omega
      rcases hj2 with rfl | rfl
      · exact h.a1
      · exact h.a2
    · refine ⟨fun _ => ⟨_, _, rfl, by omega, fun j hj => ?_⟩, by show 1 ≤ _; unfold maxLen; omega⟩
      obtain rfl : j = 0 := by have : j < 1 := hj; omega
      exact h.a3
  · obtain rfl : i = 0 := by have : i < 1 := hi; omega
    exact h.o0
  · have hi3 : i = 0 ∨ i = 1 ∨ i = 2 := by have : i < 3 := hi; omega
    rcases hi3 with rfl | rfl | rfl <;> cases q
theorem ExM.put {w w' : World} {k m : Int} (h : ExM w w' k) : ExM w (w'.setCell ⟨w.heap.size + 6, 12, none⟩ (I m)) m := by
  have hs := h.sz
  obtain ⟨cur, hc, rfl⟩ := h.row
  have ne : ∀ g i, g < w.heap.size + 6 → (w'.setCell ⟨w.heap.size + 6, 12, none⟩ (I m)).cell? ⟨g, i, none⟩ = w'.cell? ⟨g, i, none⟩ := fun g i hg => World.cell?_setCell_other _ _ _ _ (by intro e; injection e with e; omega)
  refine ⟨h.ext.set (by show _ ≤ w.heap.size + 6; omega) _, by simpa using hs, (ne _ _ (by omega)).trans h.i0, (ne _ _ (by omega)).trans h.i1, (ne _ _ (by omega)).trans h.i2, (ne _ _ (by omega)).trans h.o0, (ne _ _ (by omega)).trans h.a0,
    (ne _ _ (by omega)).trans h.a1, (ne _ _ (by omega)).trans h.a2, (ne _ _ (by omega)).trans h.a3, _, heap_setCell_same _ _ _ _ _ (I m) hc, ?_⟩
  simp
end

/-! ### Dgo -/
section
open Go Go.RowKit

set_option maxHeartbeats 400000 in
theorem num_err (k : Int) (w : World) :
    Calls Tryz.prog 22 #[.iface 61 (I k)] w fun e w' => e = .returned (I k) ∧ Ext w w' := by
  have ta := run_assert_int (P := Tryz.prog) (xT := 30) (v := I k) (w := w) Tryz.underlying61
  go_enter Tryz.func22, Tryz.ntmps22
  go_wp2
  go_ret
  exact ⟨rfl, Ext.refl _⟩
set_option maxHeartbeats 400000 in
theorem num_nil (w : World) :
    Calls Tryz.prog 22 #[.nilIface] w fun e w' => e = .returned (I 0) ∧ Ext w w' := by
  go_enter Tryz.func22, Tryz.ntmps22
  go_wp2
  go_ret
  exact ⟨rfl, Ext.refl _⟩
theorem num_any (k : Int) (w : World) :
    Calls Tryz.prog 22 #[errv k] w fun e w' => e = .returned (I k) ∧ Ext w w' := by
  by_cases h : k = 0
  · subst h; exact num_nil w
  · rw [errv_n h]; exact num_err k w
set_option maxHeartbeats 400000 in
theorem is_err (k c : Int) (w : World) :
    Calls Tryz.prog 30 #[.iface 61 (I k), I c] w fun e w' => e = .returned (.bool (decide (k = c))) ∧ Ext w w' := by
  have ta := run_assert_int (P := Tryz.prog) (xT := 30) (v := I k) (w := w) Tryz.underlying61
  by_cases h : k = c
  · subst h
    go_enter Tryz.func30, Tryz.ntmps30
    go_wp2
    go_ret
    exact ⟨by simp, Ext.refl _⟩
  · go_enter Tryz.func30, Tryz.ntmps30
    go_wp2
    go_ret
    exact ⟨by simp [h], Ext.refl _⟩
theorem run_assert_nil (w : World) : (Instr.typeAssert .nilIface 30 61 true).run Tryz.prog w = .ok (.tuple #[I 0, .bool false]) w := by
  simp [Instr.typeAssert, Tryz.zeroValue61]
set_option maxRecDepth 100000 in
set_option maxHeartbeats 1000000 in
theorem is_nil (c : Int) (w : World) :
    Calls Tryz.prog 30 #[.nilIface, I c] w fun e w' => e = .returned (.bool false) ∧ Ext w w' := by
  have ta := run_assert_nil w
  go_enter Tryz.func30, Tryz.ntmps30
  go_wp2
  go_ret
  exact ⟨rfl, Ext.refl _⟩

set_option maxRecDepth 100000 in
theorem ex_chk : chk (exD 2) = 0 := by kernel_rfl
set_option maxRecDepth 100000 in
theorem ex_chk5 : chk (exD 5) = 24 := by kernel_rfl
set_option maxRecDepth 100000 in
theorem ex_ord : ordL (exD 2) = [0, 1] := by kernel_rfl
theorem ex_use : mkL 3 (useR (exD 2) 1) = [0, 1, 2] := by
  have wf := (chk_ok ex_chk).toWF
  have hS : IsR 3 (nxD (exD 2) false) (fun k => k == 1) (fun i => decide (i < 3)) := by
    refine ⟨fun i hi => ?_, fun i hi _ j hj => ?_, fun T hT hs i hi => ?_⟩
    · have : i = 1 := by simpa using hi
      subst this; rfl
    · have := (wf.nxlt (D := exD 2) hi hj).1
      exact decide_eq_true this
    · have h1 : T 1 = true := hs 1 rfl
      have h0 : T 0 = true := hT 1 (by decide) h1 0 (by decide)
      have h2 : T 2 = true := hT 1 (by decide) h1 1 (by decide)
      have hi3 : i < 3 := of_decide_eq_true hi
      have : i = 0 ∨ i = 1 ∨ i = 2 := by omega
      rcases this with rfl | rfl | rfl
      · exact h0
      · exact h1
      · exact h2
  have e : mkL 3 (useR (exD 2) 1) = mkL 3 (fun i => decide (i < 3)) := mkL_congr fun i _ => (rch_is 3 (nxD (exD 2) false) (fun k => k == 1)).uniq hS i
  exact e.trans (by kernel_rfl)

/-- A box of a diagram that is made by the example. -/
theorem rl_lit {w : World} {g c : Nat} {L : List Nat} (hb : g < w.heap.size) (h : ∀ i, i < L.length → w.cell? ⟨g, i, none⟩ = some (I (L.getD i 0 : Nat))) : Rl w (some ⟨g, 0, none⟩) c L :=
  ⟨fun _ => ⟨g, 0, rfl, hb, fun i hi => by rw [Nat.zero_add]; exact h i hi⟩, fun h => by cases h⟩
abbrev exV (w : World) : Value := .agg #[.slice (some ⟨w.heap.size + 1, 0, none⟩) 1 1, .slice (some ⟨w.heap.size + 6, 0, none⟩) 3 3, .slice (some ⟨w.heap.size + 2, 0, none⟩) 1 1]
def ExR' (w : World) (e : Ending) (w' : World) : Prop := e = .returned (exV w) ∧ ExM w w' 2
theorem example_any' (w : World) : Calls Tryz.prog 92 #[] w (ExR' w) := (example_any w).mono fun _ _ h => ⟨h.1, h.2⟩
theorem box3 {W W2 : World} {v0 v1 v2 : Value} {t : TypeId} (e : Ext (W.alloc (.cells #[v0, v1, v2] t)) W2) : W2.cell? ⟨W.heap.size, 0, none⟩ = some v0 ∧ W2.cell? ⟨W.heap.size, 1, none⟩ = some v1 ∧ W2.cell? ⟨W.heap.size, 2, none⟩ = some v2 ∧ W.heap.size < W2.heap.size := by
  have h : W.heap.size < (W.alloc (.cells #[v0, v1, v2] t)).heap.size := by simp
  exact ⟨(e.old.1 _ _ h).trans (by go_simp), (e.old.1 _ _ h).trans (by go_simp), (e.old.1 _ _ h).trans (by go_simp), Nat.lt_of_lt_of_le h e.size⟩
theorem ExM.cell12 {w w' : World} {k : Int} (h : ExM w w' k) : w'.cell? ⟨w.heap.size + 6, 12, none⟩ = some (I k) ∧ w'.frozen? ⟨w.heap.size + 6, 12, none⟩ = false := by
  obtain ⟨cur, hc, rfl⟩ := h.row
  exact ⟨cell_of_heap hc 12, by simp [World.frozen?, hc]⟩
theorem box12 {w w1 w3 : World} {v0 v1 v2 : Value} (h0 : w3.cell? ⟨w1.heap.size, 0, none⟩ = some v0) (h1 : w3.cell? ⟨w1.heap.size, 1, none⟩ = some v1) (h2 : w3.cell? ⟨w1.heap.size, 2, none⟩ = some v2) (hz : w1.heap.size < w3.heap.size) (hne : ¬ w1.heap.size = w.heap.size + 6) :
    ∀ w', Ext (w3.setCell ⟨w.heap.size + 6, 12, none⟩ (I 5)) w' → w'.cell? ⟨w1.heap.size, 0, none⟩ = some v0 ∧ w'.cell? ⟨w1.heap.size, 1, none⟩ = some v1 ∧ w'.cell? ⟨w1.heap.size, 2, none⟩ = some v2 := fun w' e => by
  have ne : ∀ i, (w3.setCell ⟨w.heap.size + 6, 12, none⟩ (I 5)).cell? ⟨w1.heap.size, i, none⟩ = w3.cell? ⟨w1.heap.size, i, none⟩ := fun i => World.cell?_setCell_other _ _ _ _ (by intro e; injection e with e; exact hne e.symm)
  have hl : w1.heap.size < (w3.setCell ⟨w.heap.size + 6, 12, none⟩ (I 5)).heap.size := by simpa using hz
  exact ⟨(e.old.1 _ _ hl).trans ((ne _).trans h0), (e.old.1 _ _ hl).trans ((ne _).trans h1), (e.old.1 _ _ hl).trans ((ne _).trans h2)⟩
theorem rl_two (W : World) (a b : Nat) (t : TypeId) : Rl (W.alloc (.cells #[I a, I b] t)) (some ⟨W.heap.size, 0, none⟩) 2 [a, b] := rl_lit (by simp) fun i hi => by
  have : i = 0 ∨ i = 1 := by simp at hi; omega
  rcases this with rfl | rfl <;> go_simp
theorem rl_three (W : World) (a b c : Nat) (t : TypeId) : Rl (W.alloc (.cells #[I a, I b, I c] t)) (some ⟨W.heap.size, 0, none⟩) 3 [a, b, c] := rl_lit (by simp) fun i hi => by
  have : i = 0 ∨ i = 1 ∨ i = 2 := by simp at hi; omega
  rcases this with rfl | rfl | rfl <;> go_simp
theorem set12 (w w' : World) (v : Value) : w'.grownBy (w'.setCell ⟨w.heap.size + 6, 12, none⟩ v) (some (w.heap.size + 6)) := ⟨rfl, rfl, rfl, by simp, fun k _ hk => Below.heap_setCell _ _ _ k (fun q => hk (by simp [q]))⟩
end

end Go.Proofs.YtcdkkohklhmpgaaGreatDoor

/- Diagrams: the example of the document; the helpers of the statements. -/
import Derived.Test.YtcdkkohklhmpgaaDoorDgsm
namespace Go.Proofs.YtcdkkohklhmpgaaDoor

/-! ### Dgn -/
section
open Go Go.RowKit

/-- The example; with k for the kind of its third block. -/
def exD (k : Int) : Dia where
  ni := 1
  P := fun _ => ⟨-8, 8, 0⟩
  nb := 3
  B := fun i => if i = 0 then ⟨0, 1, fun _ => 0, 0, 0, 0, 0⟩ else if i = 1 then ⟨3, 2, fun j => if j = 0 then 0 else 2, 0, 0, 0, 0⟩ else ⟨k, 1, fun _ => 1, 0, 0, 0, 0⟩
  no := 1
  O := fun _ => 1
def exP (w : World) : Pl where
  AI := some ⟨w.heap.size + 1, 0, none⟩
  cI := 1
  AB := some ⟨w.heap.size + 6, 0, none⟩
  cB := 3
  AO := some ⟨w.heap.size + 2, 0, none⟩
  cO := 1
  AA := fun i => if i = 0 then some ⟨w.heap.size + 3, 0, none⟩ else if i = 1 then some ⟨w.heap.size + 4, 0, none⟩ else some ⟨w.heap.size + 5, 0, none⟩
  cA := fun i => if i = 1 then 2 else 1
/-- The memory that the example makes. -/
structure ExM (w w' : World) (k : Int) : Prop where
  ext : Ext w w'
  sz : w.heap.size + 6 < w'.heap.size
  i0 : w'.cell? ⟨w.heap.size + 1, 0, none⟩ = some (I (-8))
  i1 : w'.cell? ⟨w.heap.size + 1, 1, none⟩ = some (I 8)
  i2 : w'.cell? ⟨w.heap.size + 1, 2, none⟩ = some (I 0)
  o0 : w'.cell? ⟨w.heap.size + 2, 0, none⟩ = some (I 1)
  a0 : w'.cell? ⟨w.heap.size + 3, 0, none⟩ = some (I 0)
  a1 : w'.cell? ⟨w.heap.size + 4, 0, none⟩ = some (I 0)
  a2 : w'.cell? ⟨w.heap.size + 4, 1, none⟩ = some (I 2)
  a3 : w'.cell? ⟨w.heap.size + 5, 0, none⟩ = some (I 1)
  row : ∃ cur, w'.heap[w.heap.size + 6]? = some (.cells cur 38 (0, 0)) ∧ cur = #[I 0, .slice (some ⟨w.heap.size + 3, 0, none⟩) 1 1, I 0, I 0, I 0, I 0, I 3, .slice (some ⟨w.heap.size + 4, 0, none⟩) 2 2, I 0, I 0, I 0, I 0, I k, .slice (some ⟨w.heap.size + 5, 0, none⟩) 1 1, I 0, I 0, I 0, I 0]
def ExR (w : World) (e : Ending) (w' : World) : Prop := e = .returned (dgv (exD 2) (exP w)) ∧ ExM w w' 2
set_option maxRecDepth 100000 in
set_option maxHeartbeats 2000000 in
theorem example_any (w : World) : Calls Tryd.prog 9 #[] w (ExR w) := by
  go_enter Tryd.func9, Tryd.ntmps9
  go_wp2_with fail
  refine bodyPost_ret (v := .agg #[.slice (some ⟨w.heap.size + 1, 0, none⟩) 1 1, .slice (some ⟨w.heap.size + 1 + 1 + 1 + 1 + 1 + 1, 0, none⟩) 3 3, .slice (some ⟨w.heap.size + 1 + 1, 0, none⟩) 1 1]) (by simp [results, Tryd.results9, go_sem]) rfl ⟨rfl, ?_⟩
  refine ⟨?_, ?_, ?_, ?_, ?_, ?_, ?_, ?_, ?_, ?_, _, ?_, rfl⟩
  · exact ((((((Ext.alloc _ _).trans (Ext.alloc _ _)).trans (Ext.alloc _ _)).trans (Ext.alloc _ _)).trans (Ext.alloc _ _)).trans (Ext.alloc _ _)).trans (Ext.alloc _ _)
  · simp
  · go_simp
  · go_simp
  · go_simp
  · go_simp
  · go_simp
  · go_simp
  · go_simp
  · go_simp
  · have e : ∀ (W : World) (o : Obj) (n : Nat), n = W.heap.size → (W.alloc o).heap[n]? = some o := fun W o n h => h ▸ Go.Deep.blk_alloc_new W o
    exact e _ _ _ (by simp)

theorem ExM.on {w w' w2 : World} {k : Int} (h : ExM w w' k) (e : Ext w' w2) : ExM w w2 k := by
  have hs := h.sz
  obtain ⟨cur, hc, hcur⟩ := h.row
  exact ⟨h.ext.trans e, Nat.lt_of_lt_of_le hs e.size, (e.old.1 _ _ (by omega)).trans h.i0, (e.old.1 _ _ (by omega)).trans h.i1, (e.old.1 _ _ (by omega)).trans h.i2, (e.old.1 _ _ (by omega)).trans h.o0, (e.old.1 _ _ (by omega)).trans h.a0,
    (e.old.1 _ _ (by omega)).trans h.a1, (e.old.1 _ _ (by omega)).trans h.a2, (e.old.1 _ _ (by omega)).trans h.a3, cur, (e.block _ (by omega)).trans hc, hcur⟩
theorem cell_of_heap {w : World} {g : Nat} {cur : Array Value} {t : TypeId} (h : w.heap[g]? = some (.cells cur t (0, 0))) (j : Nat) : w.cell? ⟨g, j, none⟩ = cur[j]? := by simp [World.cell?, h]
theorem ExM.dm {w w' : World} {k : Int} (h : ExM w w' k) : Dm w' (exD k) (exP w) := by
  have hs := h.sz
  obtain ⟨cur, hc, rfl⟩ := h.row
  have hcell := cell_of_heap hc
  refine ⟨fun _ => ⟨_, _, rfl, by omega, fun i hi => ?_⟩, fun _ => ⟨_, _, rfl, by omega, fun i hi => ?_⟩, fun i hi => ?_, fun _ => ⟨_, _, rfl, by omega, fun i hi => ?_⟩, by show 1 ≤ _; unfold maxLen; omega, by show 3 ≤ _; unfold maxLen; omega, by show 1 ≤ _; unfold maxLen; omega, fun i hi q => ?_, fun q => (by cases q), fun q => (by cases q)⟩
  · obtain rfl : i = 0 := by have : i < 1 := hi; omega
    exact ⟨h.i0, h.i1, h.i2⟩
  · have hi3 : i = 0 ∨ i = 1 ∨ i = 2 := by have : i < 3 := hi; omega
    rcases hi3 with rfl | rfl | rfl <;> exact ⟨hcell _, hcell _, hcell _, hcell _, hcell _, hcell _⟩
  · have hi3 : i = 0 ∨ i = 1 ∨ i = 2 := by have : i < 3 := hi; omega
    rcases hi3 with rfl | rfl | rfl
    · refine ⟨fun _ => ⟨_, _, rfl, by omega, fun j hj => ?_⟩, by show 1 ≤ _; unfold maxLen; omega⟩
      obtain rfl : j = 0 := by have : j < 1 := hj; omega
      exact h.a0
    · refine ⟨fun _ => ⟨_, _, rfl, by omega, fun j hj => ?_⟩, by show 2 ≤ _; unfold maxLen; omega⟩
      have hj2 : j = 0 ∨ j = 1 := by have : j < 2 := hj; omega
      rcases hj2 with rfl | rfl
      · exact h.a1
      · exact h.a2
    · refine ⟨fun _ => ⟨_, _, rfl, by omega, fun j hj => ?_⟩, by show 1 ≤ _; unfold maxLen; omega⟩
      obtain rfl : j = 0 := by have : j < 1 := hj; omega
      exact h.a3
  · obtain rfl : i = 0 := by have : i < 1 := hi; omega
    exact h.o0
  · have hi3 : i = 0 ∨ i = 1 ∨ i = 2 := by have : i < 3 := hi; omega
    rcases hi3 with rfl | rfl | rfl <;> cases q
theorem ExM.put {w w' : World} {k m : Int} (h : ExM w w' k) : ExM w (w'.setCell ⟨w.heap.size + 6, 12, none⟩ (I m)) m := by
  have hs := h.sz
  obtain ⟨cur, hc, rfl⟩ := h.row
  have ne : ∀ g i, g < w.heap.size + 6 → (w'.setCell ⟨w.heap.size + 6, 12, none⟩ (I m)).cell? ⟨g, i, none⟩ = w'.cell? ⟨g, i, none⟩ := fun g i hg => World.cell?_setCell_other _ _ _ _ (by intro e; injection e with e; omega)
  refine ⟨h.ext.set (by show _ ≤ w.heap.size + 6; omega) _, by simpa using hs, (ne _ _ (by omega)).trans h.i0, (ne _ _ (by omega)).trans h.i1, (ne _ _ (by omega)).trans h.i2, (ne _ _ (by omega)).trans h.o0, (ne _ _ (by omega)).trans h.a0,
    (ne _ _ (by omega)).trans h.a1, (ne _ _ (by omega)).trans h.a2, (ne _ _ (by omega)).trans h.a3, _, heap_setCell_same _ _ _ _ _ (I m) hc, ?_⟩
  simp
end

/-! ### Dgo -/
section
open Go Go.RowKit

set_option maxRecDepth 100000 in
set_option maxHeartbeats 1000000 in
theorem ints_true {w : World} {A B : Option Addr} {n c e : Nat} {X : Nat → Int} (hn : n ≤ 1000) (ra : Ri w A n X) (rb : Ri w B n X) :
    Calls Tryd.prog 12 #[.slice A n c, .slice B n e] w fun e' w' => e' = .returned (.bool true) ∧ Ext w w' := by
  by_cases h0 : n = 0
  · subst h0
    clear ra rb
    go_enter Tryd.func12, Tryd.ntmps12
    go_wp2_with fail
    go_loopw [13] (fun s wr => s = I 0 ∧ Ext w wr) (fun _ _ => 0)
    case atStart => exact ⟨rfl, Ext.refl _⟩
    case round =>
      obtain ⟨rfl, hb⟩ := hrel
      go_wp2_with fail
      go_ret
      exact ⟨rfl, hb⟩
  · obtain ⟨ba, oa, rfl, hba, ca⟩ := ra (by omega)
    obtain ⟨bb, ob, rfl, hbb, cb⟩ := rb (by omega)
    have CA := Lib.hid ca; clear ca ra
    have CB := Lib.hid cb; clear cb rb
    have HZ := Lib.hid h0; clear h0
    go_enter Tryd.func12, Tryd.ntmps12
    go_wp2_with fail
    go_loopw [13] (fun s wr => ∃ j : Nat, j ≤ n ∧ s = I j ∧ Ext w wr) (fun s _ => n - (intOf s).toNat)
    case atStart => exact ⟨0, Nat.zero_le _, rfl, Ext.refl _⟩
    case round =>
      obtain ⟨j, hj, rfl, hb⟩ := hrel
      obtain ⟨hc, hf⟩ := hb.old
      by_cases hlt : j < n
      · have xa := (hb.old.1 _ _ hba).trans (CA.out j hlt)
        have xb := (hb.old.1 _ _ hbb).trans (CB.out j hlt)
        clear hc hf
        go_wp2_with fail
        go_quiet (fail)
        go_wp2_with fail
        go_roundw
        case rel => exact ⟨j + 1, by omega, by go_num, (by repeat (first | exact Ext.refl _ | assumption | exact Ext.alloc _ _ | refine Ext.trans ?_ (by assumption) | refine Ext.trans ?_ (Ext.alloc _ _) | refine Ext.trans ?_ (Ext.drewN _ _) | refine Ext.trans ?_ (Ext.drew _)))⟩
        case measure => simp [intOf]; omega
      · obtain rfl : j = n := by omega
        go_wp2_with fail
        go_ret
        exact ⟨rfl, hb⟩
theorem intsL_true {w : World} {A B : Option Addr} {c e : Nat} {L : List Nat} (hn : L.length ≤ 1000) (ra : Rl w A c L) (rb : Rl w B e L) :
    Calls Tryd.prog 12 #[.slice A L.length c, .slice B L.length e] w fun e' w' => e' = .returned (.bool true) ∧ Ext w w' := ints_true hn ra.1 rb.1

set_option maxHeartbeats 400000 in
theorem is_err (k c : Int) (w : World) :
    Calls Tryd.prog 13 #[.iface 45 (I k), I c] w fun e w' => e = .returned (.bool (decide (k = c))) ∧ Ext w w' := by
  have ta := run_assert_int (P := Tryd.prog) (xT := 30) (v := I k) (w := w) Tryd.underlying45
  by_cases h : k = c
  · subst h
    go_enter Tryd.func13, Tryd.ntmps13
    go_wp2
    go_ret
    exact ⟨by simp, Ext.refl _⟩
  · go_enter Tryd.func13, Tryd.ntmps13
    go_wp2
    go_ret
    exact ⟨by simp [h], Ext.refl _⟩
theorem run_assert_nil (w : World) : (Instr.typeAssert .nilIface 30 45 true).run Tryd.prog w = .ok (.tuple #[I 0, .bool false]) w := by
  simp [Instr.typeAssert, Tryd.zeroValue45]
set_option maxRecDepth 100000 in
set_option maxHeartbeats 1000000 in
theorem is_nil (c : Int) (w : World) :
    Calls Tryd.prog 13 #[.nilIface, I c] w fun e w' => e = .returned (.bool false) ∧ Ext w w' := by
  have ta := run_assert_nil w
  go_enter Tryd.func13, Tryd.ntmps13
  go_wp2
  go_ret
  exact ⟨rfl, Ext.refl _⟩

set_option maxRecDepth 100000 in
theorem ex_chk : chk (exD 2) = 0 := by kernel_rfl
set_option maxRecDepth 100000 in
theorem ex_chk5 : chk (exD 5) = 24 := by kernel_rfl
set_option maxRecDepth 100000 in
theorem ex_ord : ordL (exD 2) = [0, 1] := by kernel_rfl
theorem ex_use : mkL 3 (useR (exD 2) 1) = [0, 1, 2] := by
  have wf := (chk_ok ex_chk).toWF
  have hS : IsR 3 (nxD (exD 2) false) (fun k => k == 1) (fun i => decide (i < 3)) := by
    refine ⟨fun i hi => ?_, fun i hi _ j hj => ?_, fun T hT hs i hi => ?_⟩
    · have : i = 1 := by simpa using hi
      subst this; rfl
    · have := (wf.nxlt (D := exD 2) hi hj).1
      exact decide_eq_true this
    · have h1 : T 1 = true := hs 1 rfl
      have h0 : T 0 = true := hT 1 (by decide) h1 0 (by decide)
      have h2 : T 2 = true := hT 1 (by decide) h1 1 (by decide)
      have hi3 : i < 3 := of_decide_eq_true hi
      have : i = 0 ∨ i = 1 ∨ i = 2 := by omega
      rcases this with rfl | rfl | rfl
      · exact h0
      · exact h1
      · exact h2
  have e : mkL 3 (useR (exD 2) 1) = mkL 3 (fun i => decide (i < 3)) := mkL_congr fun i _ => (rch_is 3 (nxD (exD 2) false) (fun k => k == 1)).uniq hS i
  exact e.trans (by kernel_rfl)

/-- A box of a diagram that is made by the example. -/
theorem rl_lit {w : World} {g c : Nat} {L : List Nat} (hb : g < w.heap.size) (h : ∀ i, i < L.length → w.cell? ⟨g, i, none⟩ = some (I (L.getD i 0 : Nat))) : Rl w (some ⟨g, 0, none⟩) c L :=
  ⟨fun _ => ⟨g, 0, rfl, hb, fun i hi => by rw [Nat.zero_add]; exact h i hi⟩, fun h => by cases h⟩
abbrev exV (w : World) : Value := .agg #[.slice (some ⟨w.heap.size + 1, 0, none⟩) 1 1, .slice (some ⟨w.heap.size + 6, 0, none⟩) 3 3, .slice (some ⟨w.heap.size + 2, 0, none⟩) 1 1]
def ExR' (w : World) (e : Ending) (w' : World) : Prop := e = .returned (exV w) ∧ ExM w w' 2
theorem example_any' (w : World) : Calls Tryd.prog 9 #[] w (ExR' w) := (example_any w).mono fun _ _ h => ⟨h.1, h.2⟩
theorem box3 {W W2 : World} {v0 v1 v2 : Value} {t : TypeId} (e : Ext (W.alloc (.cells #[v0, v1, v2] t)) W2) : W2.cell? ⟨W.heap.size, 0, none⟩ = some v0 ∧ W2.cell? ⟨W.heap.size, 1, none⟩ = some v1 ∧ W2.cell? ⟨W.heap.size, 2, none⟩ = some v2 ∧ W.heap.size < W2.heap.size := by
  have h : W.heap.size < (W.alloc (.cells #[v0, v1, v2] t)).heap.size := by simp
  exact ⟨(e.old.1 _ _ h).trans (by go_simp), (e.old.1 _ _ h).trans (by go_simp), (e.old.1 _ _ h).trans (by go_simp), Nat.lt_of_lt_of_le h e.size⟩
theorem ExM.cell12 {w w' : World} {k : Int} (h : ExM w w' k) : w'.cell? ⟨w.heap.size + 6, 12, none⟩ = some (I k) ∧ w'.frozen? ⟨w.heap.size + 6, 12, none⟩ = false := by
  obtain ⟨cur, hc, rfl⟩ := h.row
  exact ⟨cell_of_heap hc 12, by simp [World.frozen?, hc]⟩
theorem box12 {w w1 w3 : World} {v0 v1 v2 : Value} (h0 : w3.cell? ⟨w1.heap.size, 0, none⟩ = some v0) (h1 : w3.cell? ⟨w1.heap.size, 1, none⟩ = some v1) (h2 : w3.cell? ⟨w1.heap.size, 2, none⟩ = some v2) (hz : w1.heap.size < w3.heap.size) (hne : ¬ w1.heap.size = w.heap.size + 6) :
    ∀ w', Ext (w3.setCell ⟨w.heap.size + 6, 12, none⟩ (I 5)) w' → w'.cell? ⟨w1.heap.size, 0, none⟩ = some v0 ∧ w'.cell? ⟨w1.heap.size, 1, none⟩ = some v1 ∧ w'.cell? ⟨w1.heap.size, 2, none⟩ = some v2 := fun w' e => by
  have ne : ∀ i, (w3.setCell ⟨w.heap.size + 6, 12, none⟩ (I 5)).cell? ⟨w1.heap.size, i, none⟩ = w3.cell? ⟨w1.heap.size, i, none⟩ := fun i => World.cell?_setCell_other _ _ _ _ (by intro e; injection e with e; exact hne e.symm)
  have hl : w1.heap.size < (w3.setCell ⟨w.heap.size + 6, 12, none⟩ (I 5)).heap.size := by simpa using hz
  exact ⟨(e.old.1 _ _ hl).trans ((ne _).trans h0), (e.old.1 _ _ hl).trans ((ne _).trans h1), (e.old.1 _ _ hl).trans ((ne _).trans h2)⟩
theorem rl_two (W : World) (a b : Nat) (t : TypeId) : Rl (W.alloc (.cells #[I a, I b] t)) (some ⟨W.heap.size, 0, none⟩) 2 [a, b] := rl_lit (by simp) fun i hi => by
  have : i = 0 ∨ i = 1 := by simp at hi; omega
  rcases this with rfl | rfl <;> go_simp
theorem rl_three (W : World) (a b c : Nat) (t : TypeId) : Rl (W.alloc (.cells #[I a, I b, I c] t)) (some ⟨W.heap.size, 0, none⟩) 3 [a, b, c] := rl_lit (by simp) fun i hi => by
  have : i = 0 ∨ i = 1 ∨ i = 2 := by simp at hi; omega
  rcases this with rfl | rfl | rfl <;> go_simp
theorem set12 (w w' : World) (v : Value) : w'.grownBy (w'.setCell ⟨w.heap.size + 6, 12, none⟩ v) (some (w.heap.size + 6)) := ⟨rfl, rfl, rfl, by simp, fun k _ hk => Below.heap_setCell _ _ _ k (fun q => hk (by simp [q]))⟩
set_option maxRecDepth 100000 in
set_option maxHeartbeats 4000000 in
theorem awake_any (w : World) (hT : Tabs w) : Calls Tryd.prog 4 #[] w fun e w' => e = .returned (.bool true) ∧ Ext w w' := by
  have HT := Lib.hid hT; clear hT
  have HI1 : Hid (∀ (A B : Option Addr) (c d : Nat) (w : World), Rl w A c [0, 1] → Rl w B d [0, 1] → Calls Tryd.prog 12 #[.slice A 2 c, .slice B 2 d] w fun e' w' => e' = .returned (.bool true) ∧ Ext w w') := fun A B c d w ra rb => intsL_true (L := [0, 1]) (by simp) ra rb
  have HI2 : Hid (∀ (A B : Option Addr) (c d : Nat) (w : World), Rl w A c [0, 1, 2] → Rl w B d [0, 1, 2] → Calls Tryd.prog 12 #[.slice A 3 c, .slice B 3 d] w fun e' w' => e' = .returned (.bool true) ∧ Ext w w') := fun A B c d w ra rb => intsL_true (L := [0, 1, 2]) (by simp) ra rb
  have HO : Hid (∀ w1 w2, ExM w w1 2 → Ext w1 w2 → Calls Tryd.prog 10 #[exV w] w2 (LsE [0, 1] w2)) := fun w1 w2 h e => by
    have := Order_ok (h.on e).dm (HT.out.ext (h.on e).ext) ex_chk; rw [ex_ord] at this; exact this
  have HU : Hid (∀ w1 w2, ExM w w1 2 → Ext w1 w2 → Calls Tryd.prog 11 #[exV w, I 1] w2 (LsE [0, 1, 2] w2)) := fun w1 w2 h e => by
    have := Uses_ok 1 (h.on e).dm (HT.out.ext (h.on e).ext) ex_chk (by decide); rw [show (exD 2).nb = 3 from rfl, ex_use] at this; exact this
  have HC : Hid (∀ w2, ExM w w2 5 → Calls Tryd.prog 6 #[exV w] w2 fun e w' => e = .returned (.iface 45 (I 24)) ∧ Ext w2 w') := fun w2 h => by
    have := check_any h.dm (HT.out.ext h.ext); rw [ex_chk5] at this; exact this
  go_enter Tryd.func4, Tryd.ntmps4
  go_wp2_with (first
    | (go_at_call 9; (with_reducible refine (example_any' _).mono ?_); rintro e1 w1 ⟨rfl, m1⟩; have M1 := Lib.hid m1; clear m1; have hz1 := M1.out.sz; have hne1 : ¬ w1.heap.size = w.heap.size + 6 := (by omega); have hne2 : ¬ w.heap.size + 6 = w1.heap.size := (by omega))
    | (go_at_call 10; (with_reducible refine (HO.out w1 _ M1.out (Ext.alloc _ _)).mono ?_); rintro e2 w2 ⟨A2, c2, rfl, o2, x2⟩; have O2 := Lib.hid o2; have X2 := Lib.hid x2; obtain ⟨k0, k1, k2, hz2⟩ := box3 x2; clear o2 x2)
    | (go_at_call 11; (with_reducible refine (HU.out w1 _ M1.out ((Ext.alloc _ _).trans X2.out)).mono ?_); rintro e3 w3 ⟨A3, c3, rfl, o3, x3⟩; have O3 := Lib.hid o3; have X3 := Lib.hid x3; obtain ⟨j0, j1, j2, hz3⟩ := box3 (X2.out.trans x3); obtain ⟨n0, n1⟩ := (M1.out.on ((Ext.alloc _ _).trans (X2.out.trans x3))).cell12; have MP := Lib.hid ((M1.out.on ((Ext.alloc _ _).trans (X2.out.trans x3))).put (m := 5)); have HBX := Lib.hid (box12 (w := w) j0 j1 j2 hz3 hne1); clear o3 x3 k0 k1 k2)
    | (have hg := x4; clear hg; go_at_call 12; (refine (HI2.out A3 _ c3 _ _ ((O3.out.off (set12 w w3 (I 5)) (by omega)).ext (((Ext.alloc _ _).trans x4).trans (Ext.alloc _ _))).rl (rl_three _ 0 1 2 _)).mono ?_); rintro e5 w5 ⟨rfl, x5⟩; obtain ⟨b0, b1, b2⟩ := HBX.out w5 ((((Ext.alloc _ _).trans x4).trans (Ext.alloc _ _)).trans x5))
    | (go_at_call 12; (refine (HI1.out A2 _ c2 _ _ (((O2.out.ext X3.out).off (set12 w w3 (I 5)) (by simp; omega)).ext (Ext.alloc _ _)).rl (by have := rl_two (w3.setCell ⟨w.heap.size + 6, 12, none⟩ (I 5)) 0 1 3; simpa using this)).mono ?_); rintro e4 w4 ⟨rfl, x4⟩; have hz4 := x4.size; simp at hz4)
    | (go_at_call 6; (with_reducible refine (HC.out _ (MP.out.on ((((Ext.alloc _ _).trans x4).trans (Ext.alloc _ _)).trans x5))).mono ?_); rintro e6 w6 ⟨rfl, x6⟩)
    | (go_at_call 13; refine (is_err 24 24 _).mono ?_; rintro e7 w7 ⟨rfl, x7⟩))
  go_ret
  exact ⟨rfl, MP.out.ext.trans ((((((Ext.alloc _ _).trans x4).trans (Ext.alloc _ _)).trans x5).trans x6).trans x7)⟩
end

end Go.Proofs.YtcdkkohklhmpgaaDoor

/- Diagrams: the library's Sort on lists that are made. -/
import Derived.Test.YtkocmdpfknoiaaaGreatDoorDgik
import Derived.Test.YtkocmdpfknoiaaaGreatDoorShelf
import Derived.Sort.OwnSortedInts
namespace Go.Proofs.YtkocmdpfknoiaaaGreatDoor

/-! ### Dgsm -/
section
/-! ### Dgs -/
section
open Go Go.RowKit Go.Sort

def zI (L : List Nat) : List Int := L.map fun (i : Nat) => (i : Int)
theorem nI_zI (L : List Nat) : nI L = (zI L).map (Value.int .i64) := by simp [nI, zI]
theorem sorted_zI {L S : List Nat} (hp : S.Perm L) (hs : S.Pairwise (· < ·)) : ((zI L).mergeSort fun x y => decide (x ≤ y)) = zI S := by
  refine List.Perm.eq_of_pairwise (le := fun a b : Int => a ≤ b) (fun a b _ _ h1 h2 => by omega) ?_ ?_ ?_
  · have := List.pairwise_mergeSort (le := fun x y : Int => decide (x ≤ y)) (fun a b c h1 h2 => by simp at *; omega) (fun a b => by simp; omega) (zI L)
    exact this.imp fun h => by simpa using h
  · unfold zI
    rw [List.pairwise_map]
    exact hs.imp fun h => by omega
  · exact (List.mergeSort_perm _ _).trans (hp.symm.map _)

theorem sort_any : SortC := by
  intro w base c A L S h hp hs hl
  rcases h.2 with ⟨e, h0⟩ | ⟨g, cap, cur, e, hb, hblk, hn, hcm, hcs, ht⟩
  · have hL : L = [] := List.eq_nil_of_length_eq_zero h0
    subst hL
    have hS : S = [] := List.perm_nil.1 hp
    subst hS
    refine (Tryz.slices_Sort_int_none A c w).mono fun e w' ⟨h1, h2⟩ => ?_
    subst h2
    exact ⟨h1, h, ⟨rfl, rfl, rfl, Nat.le_refl _, fun _ _ _ => rfl⟩⟩
  · injection e with e1 e2 e3
    subst e1; subst e3
    have hz : (zI L).length = L.length := by simp [zI]
    rw [Nat.mul_one, nI_zI, ← hz] at ht
    have hH := holds_of_blockI hblk ht
    have hc := Tryz.slices_Sort_int g 0 c (zI L) w hH (Array.getElem?_eq_some_iff.1 hblk).1 (by rw [hz]; omega)
    rw [hz, sorted_zI hp hs] at hc
    refine hc.mono fun e w' ⟨h1, n, os, h2⟩ => ?_
    subst h2
    refine ⟨h1, ?_, grownBy_sortedI _⟩
    have hlen : S.length = L.length := hp.length_eq
    have := ownsRow_sortedI (w := w) (base := base) (g := g) (cap := c) (n := n) (os := os) (ss := zI L) (ts := zI S) (by simp [zI, hlen]) hb hblk (by rw [hz]; exact hn) hcm hcs
    rw [hz] at this
    unfold OwL
    rw [hlen, nI_zI]
    exact this
end

/-! ### Dgl -/
section
open Go Go.RowKit

/-- The least closed set, as a set. -/
noncomputable def rch (nb : Nat) (N : Nx) (st : Nat → Bool) : Nat → Bool := fun i => @decide (∀ T, Clo nb N T → (∀ k, st k = true → T k = true) → T i = true) (Classical.propDecidable _)
theorem rch_iff {nb : Nat} {N : Nx} {st : Nat → Bool} {i : Nat} : rch nb N st i = true ↔ ∀ T, Clo nb N T → (∀ k, st k = true → T k = true) → T i = true := by unfold rch; exact @decide_eq_true_iff _ (Classical.propDecidable _)
theorem rch_is (nb : Nat) (N : Nx) (st : Nat → Bool) : IsR nb N st (rch nb N st) where
  stt := fun i hi => rch_iff.2 fun _ _ h => h i hi
  clo := fun i hi h j hj => rch_iff.2 fun T hT hs => hT i hi (rch_iff.1 h T hT hs) j hj
  least := fun T hT hs _ hi => rch_iff.1 hi T hT hs

theorem SrP.congr {n : Nat} {f g : Nat → Int} {w w' : World} {e : Ending} (h : SrP n f w e w') (hfg : ∀ i, i < n → f i = g i) : SrP n g w e w' := by
  obtain ⟨A, c, h1, h2, h3, h4⟩ := h
  exact ⟨A, c, h1, h2.congr hfg, h3, h4⟩
theorem nn_t {D : Dia} {i : Nat} (h : isD D i = true) : (nxD D false).nn i = 0 := by show (if _ then _ else _) = _; rw [if_pos ⟨rfl, h⟩]
theorem nn_f {D : Dia} {i : Nat} (h : isD D i = false) : (nxD D false).nn i = ns D i := by show (if _ then _ else _) = _; rw [if_neg (by rw [h]; simp)]
theorem nn_o {D : Dia} {i : Nat} : (nxD D true).nn i = ns D i := by show (if true = false ∧ isD D i = true then 0 else ns D i) = _; rw [if_neg (by simp)]

/-- The blocks on which block i depends within a tick; those on which one of S depends over ticks. -/
noncomputable def useR (D : Dia) (i : Nat) : Nat → Bool := rch D.nb (nxD D false) (fun k => k == i)
noncomputable def ovrR (D : Dia) (S : List Nat) : Nat → Bool := rch D.nb (nxD D true) (inL S)
theorem nx_le {D : Dia} (wf : WF D) (o : Bool) (i : Nat) (hi : i < D.nb) : (nxD D o).nn i ≤ 2 := by
  have h2 := (wf.ns2 hi).1
  show (if o = false ∧ isD D i = true then 0 else ns D i) ≤ 2
  split <;> omega

end

/-! ### Dgm -/
section
open Go Go.RowKit

/-- A list in new memory, without an error. -/
def LsE (L : List Nat) (w : World) (e : Ending) (w' : World) : Prop := ∃ A c, e = .returned (.tuple #[.slice A L.length c, .nilIface]) ∧ OwL w' w.heap.size A c L ∧ Ext w w'
section
variable {w : World} {D : Dia} {p : Pl}
set_option maxRecDepth 100000 in
set_option maxHeartbeats 1000000 in
theorem Order_err (d : Dm w D p) (hT : Tabs w) (h : chk D ≠ 0) : Calls Tryz.prog 83 #[dgv D p] w fun e w' => e = .returned (.tuple #[.slice none 0 0, .iface 94 (I (chk D))]) ∧ Ext w w' := by
  have HC : Hid (∀ w', Ext w w' → Calls Tryz.prog 16 #[dgv D p] w' fun e w'' => e = .returned (.iface 94 (I (chk D))) ∧ Ext w' w'') := fun w' e => by rw [← errv_n h]; exact check_any (d.ext e) (hT.ext e)
  clear d hT h
  generalize chk D = k at *
  go_enter Tryz.func83, Tryz.ntmps83
  go_wp2_with (go_at_call 16; (with_reducible refine (HC.out _ (Ext.alloc _ _)).mono ?_); rintro e w1 ⟨rfl, hb1⟩)
  go_ret2
  exact ⟨rfl, (Ext.alloc _ _).trans hb1⟩
set_option maxRecDepth 100000 in
set_option maxHeartbeats 1000000 in
theorem Delays_err (d : Dm w D p) (hT : Tabs w) (h : chk D ≠ 0) : Calls Tryz.prog 84 #[dgv D p] w fun e w' => e = .returned (.tuple #[.slice none 0 0, .iface 94 (I (chk D))]) ∧ Ext w w' := by
  have HC : Hid (∀ w', Ext w w' → Calls Tryz.prog 16 #[dgv D p] w' fun e w'' => e = .returned (.iface 94 (I (chk D))) ∧ Ext w' w'') := fun w' e => by rw [← errv_n h]; exact check_any (d.ext e) (hT.ext e)
  clear d hT h
  generalize chk D = k at *
  go_enter Tryz.func84, Tryz.ntmps84
  go_wp2_with (go_at_call 16; (with_reducible refine (HC.out _ (Ext.alloc _ _)).mono ?_); rintro e w1 ⟨rfl, hb1⟩)
  go_ret2
  exact ⟨rfl, (Ext.alloc _ _).trans hb1⟩
set_option maxRecDepth 100000 in
set_option maxHeartbeats 1000000 in
theorem Order_ok (d : Dm w D p) (hT : Tabs w) (h : chk D = 0) : Calls Tryz.prog 83 #[dgv D p] w (LsE (ordL D) w) := by
  have HC : Hid (∀ w', Ext w w' → Calls Tryz.prog 16 #[dgv D p] w' fun e w'' => e = .returned .nilIface ∧ Ext w' w'') := fun w' e => by
    have := check_any (d.ext e) (hT.ext e); rw [h, errv_z] at this; exact this
  have HO : Hid (∀ w', Ext w w' → Calls Tryz.prog 54 #[dgv D p] w' (LsR (ordL D) w')) := fun w' e => order_any (d.ext e) (chk_ok h).toWF
  have HB := Lib.hid (Bd.new w D p 26)
  clear d hT h
  generalize ordL D = L at *
  go_enter Tryz.func83, Tryz.ntmps83
  go_wp2_with (first
    | (go_at_call 16; (with_reducible refine (HC.out _ (Ext.alloc _ _)).mono ?_); rintro e w1 ⟨rfl, hb1⟩; obtain ⟨c0, c1, c2⟩ := HB.out.ext hb1; have hz := hb1.size; simp at hz)
    | (go_at_call 54; (with_reducible refine (HO.out _ ((Ext.alloc _ _).trans hb1)).mono ?_); rintro e w2 ⟨A, k, rfl, o2, x2⟩; have O2 := Lib.hid o2; have X2 := Lib.hid x2; clear o2 x2))
  go_ret2
  exact ⟨A, k, rfl, O2.out.mono (by omega), ((Ext.alloc _ _).trans hb1).trans X2.out⟩
set_option maxRecDepth 100000 in
set_option maxHeartbeats 1000000 in
theorem Delays_ok (d : Dm w D p) (hT : Tabs w) (h : chk D = 0) : Calls Tryz.prog 84 #[dgv D p] w (LsE (delL D) w) := by
  have HC : Hid (∀ w', Ext w w' → Calls Tryz.prog 16 #[dgv D p] w' fun e w'' => e = .returned .nilIface ∧ Ext w' w'') := fun w' e => by
    have := check_any (d.ext e) (hT.ext e); rw [h, errv_z] at this; exact this
  have HO : Hid (∀ w', Ext w w' → Calls Tryz.prog 55 #[dgv D p] w' (LsR (delL D) w')) := fun w' e => delays_any (d.ext e) (by have := (chk_ok h).nb; omega)
  have HB := Lib.hid (Bd.new w D p 26)
  clear d hT h
  generalize delL D = L at *
  go_enter Tryz.func84, Tryz.ntmps84
  go_wp2_with (first
    | (go_at_call 16; (with_reducible refine (HC.out _ (Ext.alloc _ _)).mono ?_); rintro e w1 ⟨rfl, hb1⟩; obtain ⟨c0, c1, c2⟩ := HB.out.ext hb1; have hz := hb1.size; simp at hz)
    | (go_at_call 55; (with_reducible refine (HO.out _ ((Ext.alloc _ _).trans hb1)).mono ?_); rintro e w2 ⟨A, k, rfl, o2, x2⟩; have O2 := Lib.hid o2; have X2 := Lib.hid x2; clear o2 x2))
  go_ret2
  exact ⟨A, k, rfl, O2.out.mono (by omega), ((Ext.alloc _ _).trans hb1).trans X2.out⟩
end
end
end

/-! ### Dgno -/
section
/-! ### Dgn -/
section
open Go Go.RowKit

/-- The example; with k for the kind of its third block. -/
def exD (k : Int) : Dia where
  ni := 1
  P := fun _ => ⟨-8, 8, 0⟩
  nb := 3
  B := fun i => if i = 0 then ⟨0, 1, fun _ => 0, 0, 0, 0, 0⟩ else if i = 1 then ⟨3, 2, fun j => if j = 0 then 0 else 2, 0, 0, 0, 0⟩ else ⟨k, 1, fun _ => 1, 0, 0, 0, 0⟩
  no := 1
  O := fun _ => 1
def exP (w : World) : Pl where
  AI := some ⟨w.heap.size + 1, 0, none⟩
  cI := 1
  AB := some ⟨w.heap.size + 6, 0, none⟩
  cB := 3
  AO := some ⟨w.heap.size + 2, 0, none⟩
  cO := 1
  AA := fun i => if i = 0 then some ⟨w.heap.size + 3, 0, none⟩ else if i = 1 then some ⟨w.heap.size + 4, 0, none⟩ else some ⟨w.heap.size + 5, 0, none⟩
  cA := fun i => if i = 1 then 2 else 1
/-- The memory that the example makes. -/
structure ExM (w w' : World) (k : Int) : Prop where
  ext : Ext w w'
  sz : w.heap.size + 6 < w'.heap.size
  i0 : w'.cell? ⟨w.heap.size + 1, 0, none⟩ = some (I (-8))
  i1 : w'.cell? ⟨w.heap.size + 1, 1, none⟩ = some (I 8)
  i2 : w'.cell? ⟨w.heap.size + 1, 2, none⟩ = some (I 0)
  o0 : w'.cell? ⟨w.heap.size + 2, 0, none⟩ = some (I 1)
  a0 : w'.cell? ⟨w.heap.size + 3, 0, none⟩ = some (I 0)
  a1 : w'.cell? ⟨w.heap.size + 4, 0, none⟩ = some (I 0)
  a2 : w'.cell? ⟨w.heap.size + 4, 1, none⟩ = some (I 2)
  a3 : w'.cell? ⟨w.heap.size + 5, 0, none⟩ = some (I 1)
  row : ∃ cur, w'.heap[w.heap.size + 6]? = some (.cells cur 51 (0, 0)) ∧ cur = #[I 0, .slice (some ⟨w.heap.size + 3, 0, none⟩) 1 1, I 0, I 0, I 0, I 0, I 3, .slice (some ⟨w.heap.size + 4, 0, none⟩) 2 2, I 0, I 0, I 0, I 0, I k, .slice (some ⟨w.heap.size + 5, 0, none⟩) 1 1, I 0, I 0, I 0, I 0]
def ExR (w : World) (e : Ending) (w' : World) : Prop := e = .returned (dgv (exD 2) (exP w)) ∧ ExM w w' 2
theorem ExM.on {w w' w2 : World} {k : Int} (h : ExM w w' k) (e : Ext w' w2) : ExM w w2 k := by
  have hs := h.sz
  obtain ⟨cur, hc, hcur⟩ := h.row
  exact ⟨h.ext.trans e, Nat.lt_of_lt_of_le hs e.size, (e.old.1 _ _ (by omega)).trans h.i0, (e.old.1 _ _ (by omega)).trans h.i1, (e.old.1 _ _ (by omega)).trans h.i2, (e.old.1 _ _ (by omega)).trans h.o0, (e.old.1 _ _ (by omega)).trans h.a0,
    (e.old.1 _ _ (by omega)).trans h.a1, (e.old.1 _ _ (by omega)).trans h.a2, (e.old.1 _ _ (by omega)).trans h.a3, cur, (e.block _ (by omega)).trans hc, hcur⟩
theorem cell_of_heap {w : World} {g : Nat} {cur : Array Value} {t : TypeId} (h : w.heap[g]? = some (.cells cur t (0, 0))) (j : Nat) : w.cell? ⟨g, j, none⟩ = cur[j]? := by simp [World.cell?, h]
theorem ExM.dm {w w' : World} {k : Int} (h : ExM w w' k) : Dm w' (exD k) (exP w) := by
  have hs := h.sz
  obtain ⟨cur, hc, rfl⟩ := h.row
  have hcell := cell_of_heap hc
  refine ⟨fun _ => ⟨_, _, rfl, by omega, fun i hi => ?_⟩, fun _ => ⟨_, _, rfl, by omega, fun i hi => ?_⟩, fun i hi => ?_, fun _ => ⟨_, _, rfl, by omega, fun i hi => ?_⟩, by show 1 ≤ _; unfold maxLen; omega, by show 3 ≤ _; unfold maxLen; omega, by show 1 ≤ _; unfold maxLen; omega, fun i hi q => ?_, fun q => (by cases q), fun q => (by cases q)⟩
  · obtain rfl : i = 0 := by have : i < 1 := hi; omega
    exact ⟨h.i0, h.i1, h.i2⟩
  · have hi3 : i = 0 ∨ i = 1 ∨ i = 2 := by have : i < 3 := hi; omega
    rcases hi3 with rfl | rfl | rfl <;> exact ⟨hcell _, hcell _, hcell _, hcell _, hcell _, hcell _⟩
  · have hi3 : i = 0 ∨ i = 1 ∨ i = 2 := by have : i < 3 := hi; omega
    rcases hi3 with rfl | rfl | rfl
    · refine ⟨fun _ => ⟨_, _, rfl, by omega, fun j hj => ?_⟩, by show 1 ≤ _; unfold maxLen; omega⟩
      obtain rfl : j = 0 := by have : j < 1 := hj; omega
      exact h.a0
    · refine ⟨fun _ => ⟨_, _, rfl, by omega, fun j hj => ?_⟩, by show 2 ≤ _; unfold maxLen; omega⟩
      have hj2 : j = 0 ∨ j = 1 := by have : j < 2 := hj; omega
      rcases hj2 with rfl | rfl
      · exact h.a1
      · exact h.a2
    · refine ⟨fun _ => ⟨_, _, rfl, by omega, fun j hj => ?_⟩, by show 1 ≤ _; unfold maxLen; omega⟩
      obtain rfl : j = 0 := by have : j < 1 := hj; omega
      exact h.a3
  · obtain rfl : i = 0 := by have : i < 1 := hi; omega
    exact h.o0
  · have hi3 : i = 0 ∨ i = 1 ∨ i = 2 := by have : i < 3 := hi; omega
    rcases hi3 with rfl | rfl | rfl <;> cases q
theorem ExM.put {w w' : World} {k m : Int} (h : ExM w w' k) : ExM w (w'.setCell ⟨w.heap.size + 6, 12, none⟩ (I m)) m := by
  have hs := h.sz
  obtain ⟨cur, hc, rfl⟩ := h.row
  have ne : ∀ g i, g < w.heap.size + 6 → (w'.setCell ⟨w.heap.size + 6, 12, none⟩ (I m)).cell? ⟨g, i, none⟩ = w'.cell? ⟨g, i, none⟩ := fun g i hg => World.cell?_setCell_other _ _ _ _ (by intro e; injection e with e; omega)
  refine ⟨h.ext.set (by show _ ≤ w.heap.size + 6; omega) _, by simpa using hs, (ne _ _ (by omega)).trans h.i0, (ne _ _ (by omega)).trans h.i1, (ne _ _ (by omega)).trans h.i2, (ne _ _ (by omega)).trans h.o0, (ne _ _ (by omega)).trans h.a0,
    (ne _ _ (by omega)).trans h.a1, (ne _ _ (by omega)).trans h.a2, (ne _ _ (by omega)).trans h.a3, _, heap_setCell_same _ _ _ _ _ (I m) hc, ?_⟩
  simp
end

/-! ### Dgo -/
section
open Go Go.RowKit

theorem intsL_true {w : World} {A B : Option Addr} {c e : Nat} {L : List Nat} (hn : L.length ≤ 1000) (ra : Rl w A c L) (rb : Rl w B e L) :
    Calls Tryz.prog 32 #[.slice A L.length c, .slice B L.length e] w fun e' w' => e' = .returned (.bool true) ∧ Ext w w' := ints_true hn ra.1 rb.1


set_option maxRecDepth 100000 in
theorem ex_chk : chk (exD 2) = 0 := by kernel_rfl
set_option maxRecDepth 100000 in
theorem ex_chk5 : chk (exD 5) = 24 := by kernel_rfl
set_option maxRecDepth 100000 in
theorem ex_ord : ordL (exD 2) = [0, 1] := by kernel_rfl
theorem ex_use : mkL 3 (useR (exD 2) 1) = [0, 1, 2] := by
  have wf := (chk_ok ex_chk).toWF
  have hS : IsR 3 (nxD (exD 2) false) (fun k => k == 1) (fun i => decide (i < 3)) := by
    refine ⟨fun i hi => ?_, fun i hi _ j hj => ?_, fun T hT hs i hi => ?_⟩
    · have : i = 1 := by simpa using hi
      subst this; rfl
    · have := (wf.nxlt (D := exD 2) hi hj).1
      exact decide_eq_true this
    · have h1 : T 1 = true := hs 1 rfl
      have h0 : T 0 = true := hT 1 (by decide) h1 0 (by decide)
      have h2 : T 2 = true := hT 1 (by decide) h1 1 (by decide)
      have hi3 : i < 3 := of_decide_eq_true hi
      have : i = 0 ∨ i = 1 ∨ i = 2 := by omega
      rcases this with rfl | rfl | rfl
      · exact h0
      · exact h1
      · exact h2
  have e : mkL 3 (useR (exD 2) 1) = mkL 3 (fun i => decide (i < 3)) := mkL_congr fun i _ => (rch_is 3 (nxD (exD 2) false) (fun k => k == 1)).uniq hS i
  exact e.trans (by kernel_rfl)

/-- A box of a diagram that is made by the example. -/
theorem rl_lit {w : World} {g c : Nat} {L : List Nat} (hb : g < w.heap.size) (h : ∀ i, i < L.length → w.cell? ⟨g, i, none⟩ = some (I (L.getD i 0 : Nat))) : Rl w (some ⟨g, 0, none⟩) c L :=
  ⟨fun _ => ⟨g, 0, rfl, hb, fun i hi => by rw [Nat.zero_add]; exact h i hi⟩, fun h => by cases h⟩
abbrev exV (w : World) : Value := .agg #[.slice (some ⟨w.heap.size + 1, 0, none⟩) 1 1, .slice (some ⟨w.heap.size + 6, 0, none⟩) 3 3, .slice (some ⟨w.heap.size + 2, 0, none⟩) 1 1]
def ExR' (w : World) (e : Ending) (w' : World) : Prop := e = .returned (exV w) ∧ ExM w w' 2
theorem box3 {W W2 : World} {v0 v1 v2 : Value} {t : TypeId} (e : Ext (W.alloc (.cells #[v0, v1, v2] t)) W2) : W2.cell? ⟨W.heap.size, 0, none⟩ = some v0 ∧ W2.cell? ⟨W.heap.size, 1, none⟩ = some v1 ∧ W2.cell? ⟨W.heap.size, 2, none⟩ = some v2 ∧ W.heap.size < W2.heap.size := by
  have h : W.heap.size < (W.alloc (.cells #[v0, v1, v2] t)).heap.size := by simp
  exact ⟨(e.old.1 _ _ h).trans (by go_simp), (e.old.1 _ _ h).trans (by go_simp), (e.old.1 _ _ h).trans (by go_simp), Nat.lt_of_lt_of_le h e.size⟩
theorem ExM.cell12 {w w' : World} {k : Int} (h : ExM w w' k) : w'.cell? ⟨w.heap.size + 6, 12, none⟩ = some (I k) ∧ w'.frozen? ⟨w.heap.size + 6, 12, none⟩ = false := by
  obtain ⟨cur, hc, rfl⟩ := h.row
  exact ⟨cell_of_heap hc 12, by simp [World.frozen?, hc]⟩
theorem box12 {w w1 w3 : World} {v0 v1 v2 : Value} (h0 : w3.cell? ⟨w1.heap.size, 0, none⟩ = some v0) (h1 : w3.cell? ⟨w1.heap.size, 1, none⟩ = some v1) (h2 : w3.cell? ⟨w1.heap.size, 2, none⟩ = some v2) (hz : w1.heap.size < w3.heap.size) (hne : ¬ w1.heap.size = w.heap.size + 6) :
    ∀ w', Ext (w3.setCell ⟨w.heap.size + 6, 12, none⟩ (I 5)) w' → w'.cell? ⟨w1.heap.size, 0, none⟩ = some v0 ∧ w'.cell? ⟨w1.heap.size, 1, none⟩ = some v1 ∧ w'.cell? ⟨w1.heap.size, 2, none⟩ = some v2 := fun w' e => by
  have ne : ∀ i, (w3.setCell ⟨w.heap.size + 6, 12, none⟩ (I 5)).cell? ⟨w1.heap.size, i, none⟩ = w3.cell? ⟨w1.heap.size, i, none⟩ := fun i => World.cell?_setCell_other _ _ _ _ (by intro e; injection e with e; exact hne e.symm)
  have hl : w1.heap.size < (w3.setCell ⟨w.heap.size + 6, 12, none⟩ (I 5)).heap.size := by simpa using hz
  exact ⟨(e.old.1 _ _ hl).trans ((ne _).trans h0), (e.old.1 _ _ hl).trans ((ne _).trans h1), (e.old.1 _ _ hl).trans ((ne _).trans h2)⟩
theorem rl_two (W : World) (a b : Nat) (t : TypeId) : Rl (W.alloc (.cells #[I a, I b] t)) (some ⟨W.heap.size, 0, none⟩) 2 [a, b] := rl_lit (by simp) fun i hi => by
  have : i = 0 ∨ i = 1 := by simp at hi; omega
  rcases this with rfl | rfl <;> go_simp
theorem rl_three (W : World) (a b c : Nat) (t : TypeId) : Rl (W.alloc (.cells #[I a, I b, I c] t)) (some ⟨W.heap.size, 0, none⟩) 3 [a, b, c] := rl_lit (by simp) fun i hi => by
  have : i = 0 ∨ i = 1 ∨ i = 2 := by simp at hi; omega
  rcases this with rfl | rfl | rfl <;> go_simp
theorem set12 (w w' : World) (v : Value) : w'.grownBy (w'.setCell ⟨w.heap.size + 6, 12, none⟩ v) (some (w.heap.size + 6)) := ⟨rfl, rfl, rfl, by simp, fun k _ hk => Below.heap_setCell _ _ _ k (fun q => hk (by simp [q]))⟩
end
end

/-! ### Dgq -/
section
open Go Go.RowKit

def litB (D : Dia) : Bool := decide (D.ni ≤ 40 ∧ D.nb ≤ 80 ∧ D.no ≤ 40) && allN D.nb (fun i => decide ((D.B i).n ≤ 10))
structure Lit (D : Dia) : Prop where
  ni : D.ni ≤ 40
  nb : D.nb ≤ 80
  no : D.no ≤ 40
  ar : ∀ i, i < D.nb → (D.B i).n ≤ 10
theorem lit_of {D : Dia} (h : litB D = true) : Lit D := by
  unfold litB at h
  simp only [Bool.and_eq_true, decide_eq_true_eq] at h
  exact ⟨h.1.1, h.1.2.1, h.1.2.2, fun i hi => by have := allN_iff.1 h.2 i hi; simpa using this⟩
theorem lit_sz {D : Dia} (h : ¬ (D.ni ≤ 40 ∧ D.nb ≤ 80 ∧ D.no ≤ 40)) : litB D = false := by unfold litB; rw [decide_eq_false h]; rfl
theorem lit_no {D : Dia} {j : Nat} (hj : j < D.nb) (h : ¬ (D.B j).n ≤ 10) : litB D = false := by
  unfold litB
  rw [allN_false.2 ⟨j, hj, by simpa using h⟩, Bool.and_false]
theorem lit_yes {D : Dia} (h : D.ni ≤ 40 ∧ D.nb ≤ 80 ∧ D.no ≤ 40) (h2 : ∀ i, i < D.nb → (D.B i).n ≤ 10) : litB D = true := by
  unfold litB
  rw [decide_eq_true h, allN_iff.2 fun i hi => by simpa using h2 i hi]; rfl

set_option maxRecDepth 100000 in
set_option maxHeartbeats 1000000 in
theorem light_any {w : World} {D : Dia} {p : Pl} (d : Dm w D p) : Calls Tryz.prog 8 #[dgv D p] w fun e w' => e = .returned (.bool (litB D)) ∧ Ext w w' := by
  have l1 := d.li; have l2 := d.lb; have l3 := d.lo
  unfold maxLen at l1 l2 l3
  by_cases hs : D.ni ≤ 40 ∧ D.nb ≤ 80 ∧ D.no ≤ 40
  · have HS := Lib.hid hs
    have m1 : ¬ (40 : Int) < (D.ni : Int) := by omega
    have m2 : ¬ (80 : Int) < (D.nb : Int) := by omega
    have m3 : ¬ (40 : Int) < (D.no : Int) := by omega
    have hnb : D.nb ≤ 80 := hs.2.1
    clear hs
    have HBD := Lib.hid (Bd.new w D p 26)
    obtain ⟨W1, hW1⟩ : ∃ W1, W1 = w.alloc (.cells #[.slice p.AI D.ni p.cI, .slice p.AB D.nb p.cB, .slice p.AO D.no p.cO] 26) := ⟨_, rfl⟩
    have hE : Ext w W1 := by rw [hW1]; exact Ext.alloc _ _
    have HD := Lib.hid d
    have HE := Lib.hid hE
    have HW1 := Lib.hid hW1
    obtain ⟨c0, c1, c2⟩ := HBD.out
    clear d hE hW1
    go_enter Tryz.func8, Tryz.ntmps8
    go_wp2_with fail
    clear c0 c1 c2
    go_loopw [24] (fun s wr => ∃ j : Nat, j ≤ D.nb ∧ s = I j ∧ Hid (Ext W1 wr) ∧ Hid (∀ i, i < j → (D.B i).n ≤ 10)) (fun s _ => D.nb - (intOf s).toNat)
    case atStart => exact ⟨0, Nat.zero_le _, rfl, by rw [HW1.out]; exact Ext.refl _, fun i hi => absurd hi (by omega)⟩
    case round =>
      obtain ⟨j, hj, rfl, HX, HG⟩ := hrel
      by_cases hlt : j < D.nb
      · have dd := HD.out.ext (HE.out.trans HX.out)
        obtain ⟨b, o, ha, hba, hc⟩ := dd.blocks (by omega)
        obtain ⟨x0, x1, x2, x3, x4, x5⟩ := hc j hlt
        have hn := (dd.args j hlt).2
        unfold maxLen at hn
        have hsz := HX.out.size
        clear hc dd
        have hlt' : (j : Int) < (D.nb : Int) := by omega
        by_cases hq : (D.B j).n ≤ 10
        · have HG2 : Hid (∀ i, i < j + 1 → (D.B i).n ≤ 10) := fun i hi => by
            by_cases h : i = j
            · subst h; exact hq
            · exact HG.out i (by omega)
          have hq' : ¬ (10 : Int) < ((D.B j).n : Int) := by omega
          clear hq
          go_wp2_with fail
          (try rw [← ha])
          go_roundw
          case rel => exact ⟨j + 1, by omega, by go_num, HX.out.trans (Ext.alloc _ _), HG2⟩
          case measure => simp [intOf]; omega
        · have HC := Lib.hid (lit_no hlt hq)
          have hq' : (10 : Int) < ((D.B j).n : Int) := by omega
          clear hq
          go_wp2_with fail
          go_ret
          exact ⟨by rw [HC.out]; rfl, HE.out.trans (HX.out.trans (Ext.alloc _ _))⟩
      · obtain rfl : j = D.nb := by omega
        have HC := Lib.hid (lit_yes HS.out HG.out)
        go_wp2_with fail
        go_ret
        exact ⟨by rw [HC.out]; rfl, HE.out.trans HX.out⟩
  · have HC := Lib.hid (lit_sz hs)
    rw [HC.out]
    by_cases h1 : D.ni ≤ 40
    · have h1' : ¬ (40 : Int) < (D.ni : Int) := by omega
      by_cases h2 : D.nb ≤ 80
      · have h2' : ¬ (80 : Int) < (D.nb : Int) := by omega
        have h3' : (40 : Int) < (D.no : Int) := by omega
        clear hs h1 h2 d
        go_enter Tryz.func8, Tryz.ntmps8
        go_wp2_with fail
        go_ret
        exact ⟨rfl, (by repeat (first | exact Ext.refl _ | assumption | exact Ext.alloc _ _ | refine Ext.trans ?_ (by assumption) | refine Ext.trans ?_ (Ext.alloc _ _) | refine Ext.trans ?_ (Ext.drewN _ _) | refine Ext.trans ?_ (Ext.drew _)))⟩
      · have h2' : (80 : Int) < (D.nb : Int) := by omega
        clear hs h1 h2 d
        go_enter Tryz.func8, Tryz.ntmps8
        go_wp2_with fail
        go_ret
        exact ⟨rfl, (by repeat (first | exact Ext.refl _ | assumption | exact Ext.alloc _ _ | refine Ext.trans ?_ (by assumption) | refine Ext.trans ?_ (Ext.alloc _ _) | refine Ext.trans ?_ (Ext.drewN _ _) | refine Ext.trans ?_ (Ext.drew _)))⟩
    · have h1' : (40 : Int) < (D.ni : Int) := by omega
      clear hs h1 d
      go_enter Tryz.func8, Tryz.ntmps8
      go_wp2_with fail
      go_ret
      exact ⟨rfl, (by repeat (first | exact Ext.refl _ | assumption | exact Ext.alloc _ _ | refine Ext.trans ?_ (by assumption) | refine Ext.trans ?_ (Ext.alloc _ _) | refine Ext.trans ?_ (Ext.drewN _ _) | refine Ext.trans ?_ (Ext.drew _)))⟩

section
variable {w : World} {D : Dia} {p : Pl}
end
end

end Go.Proofs.YtkocmdpfknoiaaaGreatDoor

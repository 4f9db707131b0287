/- Diagrams: the library's Sort on lists that are made. -/
import Derived.Test.YtcdkkohklhmpgaaGreatDoorDgik
import Derived.Test.YtcdkkohklhmpgaaGreatDoorShelf
import Derived.Sort.OwnSortedInts
namespace Go.Proofs.YtcdkkohklhmpgaaGreatDoor

/-! ### Dgs -/
section
open Go Go.RowKit Go.Sort

def zI (L : List Nat) : List Int := L.map fun (i : Nat) => (i : Int)
theorem nI_zI (L : List Nat) : nI L = (zI L).map (Value.int .i64) := by simp [nI, zI]
theorem sorted_zI {L S : List Nat} (hp : S.Perm L) (hs : S.Pairwise (· < ·)) : ((zI L).mergeSort fun x y => decide (x ≤ y)) = zI S := by
  refine List.Perm.eq_of_pairwise (le := fun a b : Int => a ≤ b) (fun a b _ _ h1 h2 => by omega) ?_ ?_ ?_
  · have := List.pairwise_mergeSort (le := fun x y : Int => decide (x ≤ y)) (fun a b c h1 h2 => by simp at *; omega) (fun a b => by simp; omega) (zI L)
    exact this.imp fun h => by simpa using h
  · unfold zI
    rw [List.pairwise_map]
    exact hs.imp fun h => by omega
  · exact (List.mergeSort_perm _ _).trans (hp.symm.map _)

theorem sort_any : SortC := by
  intro w base c A L S h hp hs hl
  rcases h.2 with ⟨e, h0⟩ | ⟨g, cap, cur, e, hb, hblk, hn, hcm, hcs, ht⟩
  · have hL : L = [] := List.eq_nil_of_length_eq_zero h0
    subst hL
    have hS : S = [] := List.perm_nil.1 hp
    subst hS
    refine (Tryz.slices_Sort_int_none A c w).mono fun e w' ⟨h1, h2⟩ => ?_
    subst h2
    exact ⟨h1, h, ⟨rfl, rfl, rfl, Nat.le_refl _, fun _ _ _ => rfl⟩⟩
  · injection e with e1 e2 e3
    subst e1; subst e3
    have hz : (zI L).length = L.length := by simp [zI]
    rw [Nat.mul_one, nI_zI, ← hz] at ht
    have hH := holds_of_blockI hblk ht
    have hc := Tryz.slices_Sort_int g 0 c (zI L) w hH (Array.getElem?_eq_some_iff.1 hblk).1 (by rw [hz]; omega)
    rw [hz, sorted_zI hp hs] at hc
    refine hc.mono fun e w' ⟨h1, n, os, h2⟩ => ?_
    subst h2
    refine ⟨h1, ?_, grownBy_sortedI _⟩
    have hlen : S.length = L.length := hp.length_eq
    have := ownsRow_sortedI (w := w) (base := base) (g := g) (cap := c) (n := n) (os := os) (ss := zI L) (ts := zI S) (by simp [zI, hlen]) hb hblk (by rw [hz]; exact hn) hcm hcs
    rw [hz] at this
    unfold OwL
    rw [hlen, nI_zI]
    exact this
end

/-! ### Dgl -/
section
open Go Go.RowKit

/-- The least closed set, as a set. -/
noncomputable def rch (nb : Nat) (N : Nx) (st : Nat → Bool) : Nat → Bool := fun i => @decide (∀ T, Clo nb N T → (∀ k, st k = true → T k = true) → T i = true) (Classical.propDecidable _)
theorem rch_iff {nb : Nat} {N : Nx} {st : Nat → Bool} {i : Nat} : rch nb N st i = true ↔ ∀ T, Clo nb N T → (∀ k, st k = true → T k = true) → T i = true := by unfold rch; exact @decide_eq_true_iff _ (Classical.propDecidable _)
theorem rch_is (nb : Nat) (N : Nx) (st : Nat → Bool) : IsR nb N st (rch nb N st) where
  stt := fun i hi => rch_iff.2 fun _ _ h => h i hi
  clo := fun i hi h j hj => rch_iff.2 fun T hT hs => hT i hi (rch_iff.1 h T hT hs) j hj
  least := fun T hT hs _ hi => rch_iff.1 hi T hT hs

theorem SrP.congr {n : Nat} {f g : Nat → Int} {w w' : World} {e : Ending} (h : SrP n f w e w') (hfg : ∀ i, i < n → f i = g i) : SrP n g w e w' := by
  obtain ⟨A, c, h1, h2, h3, h4⟩ := h
  exact ⟨A, c, h1, h2.congr hfg, h3, h4⟩
theorem nn_t {D : Dia} {i : Nat} (h : isD D i = true) : (nxD D false).nn i = 0 := by show (if _ then _ else _) = _; rw [if_pos ⟨rfl, h⟩]
theorem nn_f {D : Dia} {i : Nat} (h : isD D i = false) : (nxD D false).nn i = ns D i := by show (if _ then _ else _) = _; rw [if_neg (by rw [h]; simp)]
theorem nn_o {D : Dia} {i : Nat} : (nxD D true).nn i = ns D i := by show (if true = false ∧ isD D i = true then 0 else ns D i) = _; rw [if_neg (by simp)]

set_option maxRecDepth 100000 in
set_option maxHeartbeats 1000000 in
theorem nextO_any {w : World} {D : Dia} {p : Pl} {bd : Nat} (d : Dm w D p) (hd : Bd w bd D p) (wf : WF D) (i : Nat) (hi : i < D.nb) :
    Calls Tryz.prog 183 (#[I i] ++ #[.pointer (some ⟨bd, 0, none⟩)]) w (SrP ((nxD D true).nn i) (fun j => (((nxD D true).nx i j : Nat) : Int)) w) := by
  obtain ⟨c0, c1, c2⟩ := hd
  have hnb := wf.nb
  have hlt : (i : Int) < (D.nb : Int) := by omega
  rw [nn_o]
  have HS : Hid (∀ w', Ext w w' → Calls Tryz.prog 184 #[bkv (D.B i).k (p.AA i) (D.B i).n (p.cA i) (D.B i).vn (D.B i).ve (D.B i).un (D.B i).ue] w' (SrP (ns D i) (D.B i).a w')) := fun w' e =>
    sources_any _ _ _ _ _ _ _ _ _ w' ((d.ext e).args i hi).1 (d.nA i hi)
  have HC := Lib.hid (fun j (hj : j < ns D i) => (wf.src hi hj).1)
  obtain ⟨b, o, ha, hba, hc⟩ := d.blocks (by omega)
  obtain ⟨x0, x1, x2, x3, x4, x5⟩ := hc i hi
  clear d hc wf
  go_enter Tryz.func183, Tryz.ntmps183
  go_wp2_with (go_at_call 184; (with_reducible refine (HS.out _ (Ext.refl _)).mono ?_); rintro e w2 ⟨A2, k2, rfl, r2, n2, hb2⟩; have R2 := Lib.hid (And.intro r2 n2); clear r2 n2)
  go_ret
  exact ⟨A2, k2, rfl, R2.out.1.congr HC.out, R2.out.2, hb2⟩

/-- The blocks on which block i depends within a tick; those on which one of S depends over ticks. -/
noncomputable def useR (D : Dia) (i : Nat) : Nat → Bool := rch D.nb (nxD D false) (fun k => k == i)
noncomputable def ovrR (D : Dia) (S : List Nat) : Nat → Bool := rch D.nb (nxD D true) (inL S)
theorem nx_le {D : Dia} (wf : WF D) (o : Bool) (i : Nat) (hi : i < D.nb) : (nxD D o).nn i ≤ 2 := by
  have h2 := (wf.ns2 hi).1
  show (if o = false ∧ isD D i = true then 0 else ns D i) ≤ 2
  split <;> omega

set_option maxRecDepth 100000 in
set_option maxHeartbeats 1000000 in
theorem overTicks_any {w : World} {D : Dia} {p : Pl} {A : Option Addr} {c : Nat} {S : List Nat} (d : Dm w D p) (wf : WF D) (r : Rl w A c S) (hS : S.length ≤ 64) (hlt : ∀ x, x ∈ S → x < D.nb) : Calls Tryz.prog 111 #[dgv D p, .slice A S.length c] w (LsR (mkL D.nb (ovrR D S)) w) := by
  have hnb := wf.nb
  have eg : ∀ args w, (callFunc 183 args).run Tryz.prog w = .ok (.enter 183 args) w := enters_of Tryz.func183 (by kernel_rfl) rfl
  obtain ⟨W2, hW2⟩ : ∃ W2, W2 = w.alloc (.cells #[.slice p.AI D.ni p.cI, .slice p.AB D.nb p.cB, .slice p.AO D.no p.cO] 48) := ⟨_, rfl⟩
  have hE : Ext w W2 := by rw [hW2]; exact Ext.alloc _ _
  have hbd : Bd W2 w.heap.size D p := by rw [hW2]; exact Bd.new _ _ _ _
  have HR := reached_any (g := 183) (cb := #[.pointer (some ⟨w.heap.size, 0, none⟩)]) (p := p) (N := nxD D true) (st := inL S) (R := ovrR D S) sort_any hnb (r.ext hE) hS hlt eg
    (fun k w' hk e => nextO_any (d.ext (hE.trans e)) (hbd.ext e) wf k hk) (fun k j hk hj => (wf.nxlt hk hj).1) (nx_le wf true) (fun k => by simp [inL]) (rch_is _ _ _)
  have HR2 := Lib.hid HR
  have HE := Lib.hid hE
  have hz : w.heap.size ≤ W2.heap.size := hE.size
  clear hE hbd r eg d wf HR hlt
  go_enter Tryz.func111, Tryz.ntmps111
  go_wp2_with (go_at_call 182; rw [← hW2]; refine HR2.out.mono ?_; rintro e w1 ⟨A, c, rfl, o1, x1⟩; have O1 := Lib.hid o1; have X1 := Lib.hid x1; clear o1 x1)
  go_ret
  exact ⟨A, c, rfl, O1.out.mono hz, HE.out.trans X1.out⟩
end

/-! ### Dgm -/
section
open Go Go.RowKit

/-- A list in new memory, without an error. -/
def LsE (L : List Nat) (w : World) (e : Ending) (w' : World) : Prop := ∃ A c, e = .returned (.tuple #[.slice A L.length c, .nilIface]) ∧ OwL w' w.heap.size A c L ∧ Ext w w'
section
variable {w : World} {D : Dia} {p : Pl}
set_option maxRecDepth 100000 in
set_option maxHeartbeats 1000000 in
theorem Order_err (d : Dm w D p) (hT : Tabs w) (h : chk D ≠ 0) : Calls Tryz.prog 170 #[dgv D p] w fun e w' => e = .returned (.tuple #[.slice none 0 0, .iface 61 (I (chk D))]) ∧ Ext w w' := by
  have HC : Hid (∀ w', Ext w w' → Calls Tryz.prog 26 #[dgv D p] w' fun e w'' => e = .returned (.iface 61 (I (chk D))) ∧ Ext w' w'') := fun w' e => by rw [← errv_n h]; exact check_any (d.ext e) (hT.ext e)
  clear d hT h
  generalize chk D = k at *
  go_enter Tryz.func170, Tryz.ntmps170
  go_wp2_with (go_at_call 26; (with_reducible refine (HC.out _ (Ext.alloc _ _)).mono ?_); rintro e w1 ⟨rfl, hb1⟩)
  go_ret2
  exact ⟨rfl, (Ext.alloc _ _).trans hb1⟩
set_option maxRecDepth 100000 in
set_option maxHeartbeats 1000000 in
theorem Delays_err (d : Dm w D p) (hT : Tabs w) (h : chk D ≠ 0) : Calls Tryz.prog 171 #[dgv D p] w fun e w' => e = .returned (.tuple #[.slice none 0 0, .iface 61 (I (chk D))]) ∧ Ext w w' := by
  have HC : Hid (∀ w', Ext w w' → Calls Tryz.prog 26 #[dgv D p] w' fun e w'' => e = .returned (.iface 61 (I (chk D))) ∧ Ext w' w'') := fun w' e => by rw [← errv_n h]; exact check_any (d.ext e) (hT.ext e)
  clear d hT h
  generalize chk D = k at *
  go_enter Tryz.func171, Tryz.ntmps171
  go_wp2_with (go_at_call 26; (with_reducible refine (HC.out _ (Ext.alloc _ _)).mono ?_); rintro e w1 ⟨rfl, hb1⟩)
  go_ret2
  exact ⟨rfl, (Ext.alloc _ _).trans hb1⟩
set_option maxRecDepth 100000 in
set_option maxHeartbeats 1000000 in
theorem Order_ok (d : Dm w D p) (hT : Tabs w) (h : chk D = 0) : Calls Tryz.prog 170 #[dgv D p] w (LsE (ordL D) w) := by
  have HC : Hid (∀ w', Ext w w' → Calls Tryz.prog 26 #[dgv D p] w' fun e w'' => e = .returned .nilIface ∧ Ext w' w'') := fun w' e => by
    have := check_any (d.ext e) (hT.ext e); rw [h, errv_z] at this; exact this
  have HO : Hid (∀ w', Ext w w' → Calls Tryz.prog 96 #[dgv D p] w' (LsR (ordL D) w')) := fun w' e => order_any (d.ext e) (chk_ok h).toWF
  have HB := Lib.hid (Bd.new w D p 48)
  clear d hT h
  generalize ordL D = L at *
  go_enter Tryz.func170, Tryz.ntmps170
  go_wp2_with (first
    | (go_at_call 26; (with_reducible refine (HC.out _ (Ext.alloc _ _)).mono ?_); rintro e w1 ⟨rfl, hb1⟩; obtain ⟨c0, c1, c2⟩ := HB.out.ext hb1; have hz := hb1.size; simp at hz)
    | (go_at_call 96; (with_reducible refine (HO.out _ ((Ext.alloc _ _).trans hb1)).mono ?_); rintro e w2 ⟨A, k, rfl, o2, x2⟩; have O2 := Lib.hid o2; have X2 := Lib.hid x2; clear o2 x2))
  go_ret2
  exact ⟨A, k, rfl, O2.out.mono (by omega), ((Ext.alloc _ _).trans hb1).trans X2.out⟩
set_option maxRecDepth 100000 in
set_option maxHeartbeats 1000000 in
theorem Delays_ok (d : Dm w D p) (hT : Tabs w) (h : chk D = 0) : Calls Tryz.prog 171 #[dgv D p] w (LsE (delL D) w) := by
  have HC : Hid (∀ w', Ext w w' → Calls Tryz.prog 26 #[dgv D p] w' fun e w'' => e = .returned .nilIface ∧ Ext w' w'') := fun w' e => by
    have := check_any (d.ext e) (hT.ext e); rw [h, errv_z] at this; exact this
  have HO : Hid (∀ w', Ext w w' → Calls Tryz.prog 97 #[dgv D p] w' (LsR (delL D) w')) := fun w' e => delays_any (d.ext e) (by have := (chk_ok h).nb; omega)
  have HB := Lib.hid (Bd.new w D p 48)
  clear d hT h
  generalize delL D = L at *
  go_enter Tryz.func171, Tryz.ntmps171
  go_wp2_with (first
    | (go_at_call 26; (with_reducible refine (HC.out _ (Ext.alloc _ _)).mono ?_); rintro e w1 ⟨rfl, hb1⟩; obtain ⟨c0, c1, c2⟩ := HB.out.ext hb1; have hz := hb1.size; simp at hz)
    | (go_at_call 97; (with_reducible refine (HO.out _ ((Ext.alloc _ _).trans hb1)).mono ?_); rintro e w2 ⟨A, k, rfl, o2, x2⟩; have O2 := Lib.hid o2; have X2 := Lib.hid x2; clear o2 x2))
  go_ret2
  exact ⟨A, k, rfl, O2.out.mono (by omega), ((Ext.alloc _ _).trans hb1).trans X2.out⟩
end
end

end Go.Proofs.YtcdkkohklhmpgaaGreatDoor

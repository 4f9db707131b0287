/- Diagrams: withinTick, overTicks, Uses, Order, Delays by the code. -/
import Derived.Test.YtgajibdmihdkcaaDoorDgs
namespace Go.Proofs.YtgajibdmihdkcaaDoor
open Go Go.RowKit

/-- The least closed set, as a set. -/
noncomputable def rch (nb : Nat) (N : Nx) (st : Nat → Bool) : Nat → Bool := fun i => @decide (∀ T, Clo nb N T → (∀ k, st k = true → T k = true) → T i = true) (Classical.propDecidable _)
theorem rch_iff {nb : Nat} {N : Nx} {st : Nat → Bool} {i : Nat} : rch nb N st i = true ↔ ∀ T, Clo nb N T → (∀ k, st k = true → T k = true) → T i = true := by unfold rch; exact @decide_eq_true_iff _ (Classical.propDecidable _)
theorem rch_is (nb : Nat) (N : Nx) (st : Nat → Bool) : IsR nb N st (rch nb N st) where
  stt := fun i hi => rch_iff.2 fun _ _ h => h i hi
  clo := fun i hi h j hj => rch_iff.2 fun T hT hs => hT i hi (rch_iff.1 h T hT hs) j hj
  least := fun T hT hs _ hi => rch_iff.1 hi T hT hs

theorem SrP.congr {n : Nat} {f g : Nat → Int} {w w' : World} {e : Ending} (h : SrP n f w e w') (hfg : ∀ i, i < n → f i = g i) : SrP n g w e w' := by
  obtain ⟨A, c, h1, h2, h3, h4⟩ := h
  exact ⟨A, c, h1, h2.congr hfg, h3, h4⟩
theorem nn_t {D : Dia} {i : Nat} (h : isD D i = true) : (nxD D false).nn i = 0 := by show (if _ then _ else _) = _; rw [if_pos ⟨rfl, h⟩]
theorem nn_f {D : Dia} {i : Nat} (h : isD D i = false) : (nxD D false).nn i = ns D i := by show (if _ then _ else _) = _; rw [if_neg (by rw [h]; simp)]
theorem nn_o {D : Dia} {i : Nat} : (nxD D true).nn i = ns D i := by show (if true = false ∧ isD D i = true then 0 else ns D i) = _; rw [if_neg (by simp)]

set_option maxRecDepth 100000 in
set_option maxHeartbeats 1000000 in
theorem nextW_any {w : World} {D : Dia} {p : Pl} {bd : Nat} (d : Dm w D p) (hd : Bd w bd D p) (wf : WF D) (i : Nat) (hi : i < D.nb) :
    Calls Tryd.prog 63 (#[I i] ++ #[.pointer (some ⟨bd, 0, none⟩)]) w (SrP ((nxD D false).nn i) (fun j => (((nxD D false).nx i j : Nat) : Int)) w) := by
  have HI := Lib.hid (isDelay_any d i hi)
  obtain ⟨c0, c1, c2⟩ := hd
  have hnb := wf.nb
  have hlt : (i : Int) < (D.nb : Int) := by omega
  cases hq : isD D i with
  | true =>
    rw [hq] at HI
    have H0 := Lib.hid (nn_t hq)
    rw [H0.out]
    clear hq d
    go_enter Tryd.func63, Tryd.ntmps63
    go_wp2_with (go_at_call 61; refine HI.out.mono ?_; rintro e w1 ⟨rfl, hb1⟩)
    go_ret
    exact ⟨none, 0, rfl, Ri.none_, fun _ => rfl, hb1⟩
  | false =>
    rw [hq] at HI
    have H0 := Lib.hid (nn_f hq)
    rw [H0.out]
    have HS : Hid (∀ w', Ext w w' → Calls Tryd.prog 64 #[bkv (D.B i).k (p.AA i) (D.B i).n (p.cA i) (D.B i).vn (D.B i).ve (D.B i).un (D.B i).ue] w' (SrP (ns D i) (D.B i).a w')) := fun w' e =>
      sources_any _ _ _ _ _ _ _ _ _ w' ((d.ext e).args i hi).1 (d.nA i hi)
    have HC := Lib.hid (fun j (hj : j < ns D i) => (wf.src hi hj).1)
    obtain ⟨b, o, ha, hba, hc⟩ := d.blocks (by omega)
    obtain ⟨x0, x1, x2, x3, x4, x5⟩ := hc i hi
    clear hq d hc wf
    have HA : Hid (Bd w bd D p) := ⟨c0, c1, c2⟩
    go_enter Tryd.func63, Tryd.ntmps63
    go_wp2_with (first
      | (go_at_call 61; rw [← ha]; refine HI.out.mono ?_; rintro e w1 ⟨rfl, hb1⟩; obtain ⟨hc1, hf1⟩ := hb1.old; obtain ⟨q0, q1, q2⟩ := HA.out.ext hb1)
      | (go_at_call 64; (with_reducible refine (HS.out _ hb1).mono ?_); rintro e w2 ⟨A2, k2, rfl, r2, n2, hb2⟩; have R2 := Lib.hid (And.intro r2 n2); clear r2 n2))
    go_ret
    exact ⟨A2, k2, rfl, R2.out.1.congr HC.out, R2.out.2, hb1.trans hb2⟩
set_option maxRecDepth 100000 in
set_option maxHeartbeats 1000000 in
theorem nextO_any {w : World} {D : Dia} {p : Pl} {bd : Nat} (d : Dm w D p) (hd : Bd w bd D p) (wf : WF D) (i : Nat) (hi : i < D.nb) :
    Calls Tryd.prog 67 (#[I i] ++ #[.pointer (some ⟨bd, 0, none⟩)]) w (SrP ((nxD D true).nn i) (fun j => (((nxD D true).nx i j : Nat) : Int)) w) := by
  obtain ⟨c0, c1, c2⟩ := hd
  have hnb := wf.nb
  have hlt : (i : Int) < (D.nb : Int) := by omega
  rw [nn_o]
  have HS : Hid (∀ w', Ext w w' → Calls Tryd.prog 64 #[bkv (D.B i).k (p.AA i) (D.B i).n (p.cA i) (D.B i).vn (D.B i).ve (D.B i).un (D.B i).ue] w' (SrP (ns D i) (D.B i).a w')) := fun w' e =>
    sources_any _ _ _ _ _ _ _ _ _ w' ((d.ext e).args i hi).1 (d.nA i hi)
  have HC := Lib.hid (fun j (hj : j < ns D i) => (wf.src hi hj).1)
  obtain ⟨b, o, ha, hba, hc⟩ := d.blocks (by omega)
  obtain ⟨x0, x1, x2, x3, x4, x5⟩ := hc i hi
  clear d hc wf
  go_enter Tryd.func67, Tryd.ntmps67
  go_wp2_with (go_at_call 64; (with_reducible refine (HS.out _ (Ext.refl _)).mono ?_); rintro e w2 ⟨A2, k2, rfl, r2, n2, hb2⟩; have R2 := Lib.hid (And.intro r2 n2); clear r2 n2)
  go_ret
  exact ⟨A2, k2, rfl, R2.out.1.congr HC.out, R2.out.2, hb2⟩

/-- The blocks on which block i depends within a tick; those on which one of S depends over ticks. -/
noncomputable def useR (D : Dia) (i : Nat) : Nat → Bool := rch D.nb (nxD D false) (fun k => k == i)
noncomputable def ovrR (D : Dia) (S : List Nat) : Nat → Bool := rch D.nb (nxD D true) (inL S)
theorem nx_le {D : Dia} (wf : WF D) (o : Bool) (i : Nat) (hi : i < D.nb) : (nxD D o).nn i ≤ 2 := by
  have h2 := (wf.ns2 hi).1
  show (if o = false ∧ isD D i = true then 0 else ns D i) ≤ 2
  split <;> omega

set_option maxRecDepth 100000 in
set_option maxHeartbeats 1000000 in
theorem withinTick_any {w : World} {D : Dia} {p : Pl} (d : Dm w D p) (wf : WF D) (i : Nat) (hi : i < D.nb) : Calls Tryd.prog 39 #[dgv D p, I i] w (LsR (mkL D.nb (useR D i)) w) := by
  have hnb := wf.nb
  have eg : ∀ args w, (callFunc 63 args).run Tryd.prog w = .ok (.enter 63 args) w := enters_of Tryd.func63 (by kernel_rfl) rfl
  obtain ⟨W2, hW2⟩ : ∃ W2, W2 = (w.alloc (.cells #[.slice p.AI D.ni p.cI, .slice p.AB D.nb p.cB, .slice p.AO D.no p.cO] 26)).alloc (.cells #[I i] 3) := ⟨_, rfl⟩
  have hE : Ext w W2 := by rw [hW2]; exact (Ext.alloc _ _).trans (Ext.alloc _ _)
  have hbd : Bd W2 w.heap.size D p := by rw [hW2]; exact (Bd.new _ _ _ _).ext (Ext.alloc _ _)
  have hr : Rl W2 (some ⟨w.heap.size + 1, 0, none⟩) 1 [i] := ⟨fun _ => ⟨w.heap.size + 1, 0, rfl, by rw [hW2]; simp, fun j hj => by
    obtain rfl : j = 0 := by simpa using hj
    rw [hW2]; simp⟩, fun h => by cases h⟩
  have HR := reached_any (g := 63) (cb := #[.pointer (some ⟨w.heap.size, 0, none⟩)]) (p := p) (N := nxD D false) (st := fun k => k == i) (R := useR D i) sort_any hnb hr (by simp) (fun x hx => by rw [List.mem_singleton] at hx; omega) eg
    (fun k w' hk e => nextW_any (d.ext (hE.trans e)) (hbd.ext e) wf k hk) (fun k j hk hj => (wf.nxlt hk hj).1) (nx_le wf false) (fun k => by simp) (rch_is _ _ _)
  have HR2 := Lib.hid HR
  have HE := Lib.hid hE
  have hz : w.heap.size ≤ W2.heap.size := hE.size
  clear hE hbd hr eg d wf HR
  go_enter Tryd.func39, Tryd.ntmps39
  go_wp2_with (go_at_call 62; rw [← hW2]; refine HR2.out.mono ?_; rintro e w1 ⟨A, c, rfl, o1, x1⟩; have O1 := Lib.hid o1; have X1 := Lib.hid x1; clear o1 x1)
  go_ret
  exact ⟨A, c, rfl, O1.out.mono hz, HE.out.trans X1.out⟩
set_option maxRecDepth 100000 in
set_option maxHeartbeats 1000000 in
theorem overTicks_any {w : World} {D : Dia} {p : Pl} {A : Option Addr} {c : Nat} {S : List Nat} (d : Dm w D p) (wf : WF D) (r : Rl w A c S) (hS : S.length ≤ 64) (hlt : ∀ x, x ∈ S → x < D.nb) : Calls Tryd.prog 43 #[dgv D p, .slice A S.length c] w (LsR (mkL D.nb (ovrR D S)) w) := by
  have hnb := wf.nb
  have eg : ∀ args w, (callFunc 67 args).run Tryd.prog w = .ok (.enter 67 args) w := enters_of Tryd.func67 (by kernel_rfl) rfl
  obtain ⟨W2, hW2⟩ : ∃ W2, W2 = w.alloc (.cells #[.slice p.AI D.ni p.cI, .slice p.AB D.nb p.cB, .slice p.AO D.no p.cO] 26) := ⟨_, rfl⟩
  have hE : Ext w W2 := by rw [hW2]; exact Ext.alloc _ _
  have hbd : Bd W2 w.heap.size D p := by rw [hW2]; exact Bd.new _ _ _ _
  have HR := reached_any (g := 67) (cb := #[.pointer (some ⟨w.heap.size, 0, none⟩)]) (p := p) (N := nxD D true) (st := inL S) (R := ovrR D S) sort_any hnb (r.ext hE) hS hlt eg
    (fun k w' hk e => nextO_any (d.ext (hE.trans e)) (hbd.ext e) wf k hk) (fun k j hk hj => (wf.nxlt hk hj).1) (nx_le wf true) (fun k => by simp [inL]) (rch_is _ _ _)
  have HR2 := Lib.hid HR
  have HE := Lib.hid hE
  have hz : w.heap.size ≤ W2.heap.size := hE.size
  clear hE hbd r eg d wf HR hlt
  go_enter Tryd.func43, Tryd.ntmps43
  go_wp2_with (go_at_call 62; rw [← hW2]; refine HR2.out.mono ?_; rintro e w1 ⟨A, c, rfl, o1, x1⟩; have O1 := Lib.hid o1; have X1 := Lib.hid x1; clear o1 x1)
  go_ret
  exact ⟨A, c, rfl, O1.out.mono hz, HE.out.trans X1.out⟩
end Go.Proofs.YtgajibdmihdkcaaDoor

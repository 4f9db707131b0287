/- The law ExactSteps. -/
import Derived.Test.YtgnaljnmjphleaaGreatDoorExf
namespace Go.Proofs.YtgnaljnmjphleaaGreatDoor
open Go Go.RowKit

/-- Any struct of the form of a number counts by both sides alike. -/
theorem el_any {w : World} {r : RN} {f : Nat → Nat} (hr : Rd w r.A r.n f) (ok : SlOk r.A r.n r.c) (hb : ∀ i, i < r.n → f i < 4294967296) (hn : r.n ≤ 16777216) :
    El w r (nrA r.neg r.n f r.den) (vld r.neg r.n f r.den) ∧ Er w r (nrA r.neg r.n f r.den) (vld r.neg r.n f r.den) := by
  have hcn : vld r.neg r.n f r.den = true → Cn w r (nrA r.neg r.n f r.den) := fun hv => by
    have hd := Dy.any (neg := r.neg) (den := r.den) hr ok hb hn
    rw [if_pos hv, if_pos hv] at hd
    have e : nrA r.neg r.n f r.den = ⟨r.neg, valN f r.n, r.den.toNat⟩ := by unfold nrA; rw [if_pos hv]
    have hl : len (valN f r.n) = r.n := by
      refine len_valN hb (Nat.le_refl _) (fun i h1 h2 => by omega) ?_
      cases hrn : r.n with
      | zero => exact .inl rfl
      | succ k => rw [hrn, vld_succ] at hv; simp at hv; exact .inr (by simpa using hv.1.1.1)
    have hden : ((r.den.toNat : Nat) : Int) = r.den := by
      cases hrn : r.n with
      | zero => rw [hrn, vld_zero] at hv; simp at hv; omega
      | succ k => rw [hrn, vld_succ] at hv; simp at hv; have := hv.1.1.2; omega
    refine ⟨?_, hd.rd, hd.sl, hd.wf, hd.lim⟩
    rw [e]
    obtain ⟨neg, A, n, c, den⟩ := r
    show RN.mk neg A n c den = ⟨neg, A, len (valN f n), c, (den.toNat : Nat)⟩
    rw [hl, hden]
  exact ⟨⟨fun w' e => valid_any r.neg r.A r.n r.c r.den f w' (hr.ext e) hb (by omega), hcn⟩, ⟨fun w' e => rvalid_any r.neg r.A r.n r.c r.den f w' (hr.ext e) hb (by omega), hcn⟩⟩

structure Sts (w : World) (As : Option Addr) (n : Nat) (R : Nat → RN) (F : Nat → Nat → Nat) : Prop where
  rs : Rn w As n R
  hn : n ≤ maxLen
  rd : ∀ i, i < n → Rd w (R i).A (R i).n (F i)
  sl : ∀ i, i < n → SlOk (R i).A (R i).n (R i).c
  bd : ∀ i, i < n → ∀ j, j < (R i).n → F i j < 4294967296
theorem Sts.ext {w w' : World} {As : Option Addr} {n : Nat} {R : Nat → RN} {F : Nat → Nat → Nat} (h : Sts w As n R F) (e : Ext w w') : Sts w' As n R F := ⟨h.rs.ext e, h.hn, fun i hi => (h.rd i hi).ext e, h.sl, h.bd⟩
def stV (R : Nat → RN) (F : Nat → Nat → Nat) (i : Nat) : DV := nrA (R i).neg (R i).n (F i) (R i).den
def stO (R : Nat → RN) (F : Nat → Nat → Nat) (i : Nat) : Bool := vld (R i).neg (R i).n (F i) (R i).den
theorem Sts.el {w : World} {As : Option Addr} {n : Nat} {R : Nat → RN} {F : Nat → Nat → Nat} (h : Sts w As n R F) (hl : leaB n (fun i => (R i).n) (fun i => (R i).den) = true) :
    n ≤ 100 ∧ (∀ i, i < n → El w (R i) (stV R F i) (stO R F i)) ∧ (∀ i, i < n → Er w (R i) (stV R F i) (stO R F i)) := by
  unfold leaB at hl
  simp only [Bool.and_eq_true, decide_eq_true_eq] at hl
  have hk : ∀ i, i < n → (R i).n ≤ 300 := fun i hi => by have := allN_iff.1 hl.1 i hi; simp at this; exact this.1
  exact ⟨hl.2, fun i hi => (el_any (h.rd i hi) (h.sl i hi) (h.bd i hi) (by have := hk i hi; omega)).1, fun i hi => (el_any (h.rd i hi) (h.sl i hi) (h.bd i hi) (by have := hk i hi; omega)).2⟩
theorem li_one (w : World) (A : Option Addr) (m c : Nat) (IN : Nat → Int) (t : TypeId) (r : Ri w A m IN) (hm : m ≤ maxLen) :
    Lli (w.alloc (.cells #[.slice A m c] t)) (some ⟨w.heap.size, 0, none⟩) 1 (fun _ => A) (fun _ => m) (fun _ => c) (fun _ => IN) := by
  refine ⟨fun _ => ⟨w.heap.size, 0, rfl, by simp, fun t ht => ?_⟩, fun t _ => ⟨r.ext (Ext.alloc _ _), hm⟩⟩
  obtain rfl : t = 0 := by omega
  go_simp

set_option maxRecDepth 100000 in
set_option maxHeartbeats 4000000 in
theorem exactSteps_any {w : World} {D : Dia} {p : Pl} {As Ai : Option Addr} {n cs m ci : Nat} {R : Nat → RN} {F : Nat → Nat → Nat} {IN : Nat → Int} (d : Dm w D p) (hT : Tabs w) (st : Sts w As n R F) (r : Ri w Ai m IN) (hm : m ≤ maxLen) :
    Calls Tryz.prog 3 #[dgv D p, .slice As n cs, .slice Ai m ci] w fun e w' => e = .returned (.bool true) ∧ Ext w w' := by
  obtain ⟨W1, hW1⟩ : ∃ W1, W1 = w.alloc (.cells #[.slice p.AI D.ni p.cI, .slice p.AB D.nb p.cB, .slice p.AO D.no p.cO] 26) := ⟨_, rfl⟩
  have hE : Ext w W1 := by rw [hW1]; exact Ext.alloc _ _
  have hbd : Bd W1 w.heap.size D p := by rw [hW1]; exact Bd.new _ _ _ _
  have HBX : Hid (∀ w', Ext W1 w' → w'.cell? ⟨w.heap.size, 0, none⟩ = some (.slice p.AI D.ni p.cI) ∧ w'.cell? ⟨w.heap.size, 1, none⟩ = some (.slice p.AB D.nb p.cB) ∧ w'.cell? ⟨w.heap.size, 2, none⟩ = some (.slice p.AO D.no p.cO)) := fun w' e => by
    have a := hbd.ext e; exact ⟨a.c0, a.c1, a.c2⟩
  have hnl : ∀ i, i < n → (R i).n ≤ maxLen := fun i hi => by have := st.sl i hi; exact Nat.le_trans this.1 this.2.1
  have HA : Hid (∀ w', Ext W1 w' → Calls Tryz.prog 8 #[] w' fun e w'' => e = .returned (.bool true) ∧ Ext w' w'') := fun w' e => xawake_any w' (hT.ext (hE.trans e))
  have HLI : Hid (∀ w1 t, Ext W1 w1 → Calls Tryz.prog 9 #[dgv D p, .slice (some ⟨w1.heap.size, 0, none⟩) 1 1] (w1.alloc (.cells #[.slice Ai m ci] t)) fun e w'' => e = .returned (.bool (litX D 1 fun _ => m)) ∧ Ext (w1.alloc (.cells #[.slice Ai m ci] t)) w'') := fun w1 t e =>
    lightX_any (d.ext (hE.trans (e.trans (Ext.alloc _ _)))) (li_one w1 Ai m ci IN t (r.ext (hE.trans e)) hm) (by unfold maxLen; omega)
  have HLE : Hid (∀ w', Ext W1 w' → Calls Tryz.prog 10 #[.slice As n cs] w' fun e w'' => e = .returned (.bool (leaB n (fun i => (R i).n) (fun i => (R i).den))) ∧ Ext w' w'') := fun w' e => lean_any (st.rs.ext (hE.trans e)) st.hn hnl
  have HRC : Hid (∀ w', Ext W1 w' → Calls Tryz.prog 13 #[dgv D p] w' fun e w'' => e = .returned (I (chk D)) ∧ Ext w' w'') := fun w' e => rcheck_any (d.ext (hE.trans e)) (hT.ext (hE.trans e))
  have HE := Lib.hid hE
  obtain ⟨c0, c1, c2⟩ := HBX.out _ (Ext.refl _)
  rw [hW1] at c0 c1 c2
  cases hlt : litX D 1 (fun _ => m) with
  | false =>
    rw [hlt] at HLI
    clear d hT st r hm hbd hnl HLE HRC hlt hE
    go_enter Tryz.func3, Tryz.ntmps3
    go_upto_region 1 with fail
    rw [← hW1] at c0 c1 c2
    rw [← hW1]; clear hW1
    go_wp2_with (first
      | (go_at_call 8; (with_reducible refine (HA.out _ (by (with_reducible (repeat (first | exact Ext.refl _ | assumption | (refine Ext.toSet ?_ (by omega)) | refine Ext.toAlloc ?_ | refine Ext.toDrew ?_ | refine Ext.toDrewN ?_ | refine Ext.trans ?_ (by assumption)))); (first | done | fail "no"))).mono ?_); rintro e1 w1 ⟨rfl, h1⟩; obtain ⟨d0, d1, d2⟩ := HBX.out w1 (by (with_reducible (repeat (first | exact Ext.refl _ | assumption | (refine Ext.toSet ?_ (by omega)) | refine Ext.toAlloc ?_ | refine Ext.toDrew ?_ | refine Ext.toDrewN ?_ | refine Ext.trans ?_ (by assumption)))); (first | done | fail "no")))
      | (go_at_call 9; (with_reducible refine (HLI.out _ _ (by (with_reducible (repeat (first | exact Ext.refl _ | assumption | (refine Ext.toSet ?_ (by omega)) | refine Ext.toAlloc ?_ | refine Ext.toDrew ?_ | refine Ext.toDrewN ?_ | refine Ext.trans ?_ (by assumption)))); (first | done | fail "no"))).mono ?_); rintro e1 w1 ⟨rfl, h1⟩; obtain ⟨d0, d1, d2⟩ := HBX.out w1 (by (with_reducible (repeat (first | exact Ext.refl _ | assumption | (refine Ext.toSet ?_ (by omega)) | refine Ext.toAlloc ?_ | refine Ext.toDrew ?_ | refine Ext.toDrewN ?_ | refine Ext.trans ?_ (by assumption)))); (first | done | fail "no"))))
    go_ret
    exact ⟨rfl, HE.out.trans (by (with_reducible (repeat (first | exact Ext.refl _ | assumption | (refine Ext.toSet ?_ (by omega)) | refine Ext.toAlloc ?_ | refine Ext.toDrew ?_ | refine Ext.toDrewN ?_ | refine Ext.trans ?_ (by assumption)))); (first | done | fail "no"))⟩
  | true =>
    rw [hlt] at HLI
    cases hle : leaB n (fun i => (R i).n) (fun i => (R i).den) with
    | false =>
      rw [hle] at HLE
      clear d hT st r hm hbd hnl HRC hlt hE hle
      go_enter Tryz.func3, Tryz.ntmps3
      go_upto_region 1 with fail
      rw [← hW1] at c0 c1 c2
      rw [← hW1]; clear hW1
      go_wp2_with (first
        | (go_at_call 8; (with_reducible refine (HA.out _ (by (with_reducible (repeat (first | exact Ext.refl _ | assumption | (refine Ext.toSet ?_ (by omega)) | refine Ext.toAlloc ?_ | refine Ext.toDrew ?_ | refine Ext.toDrewN ?_ | refine Ext.trans ?_ (by assumption)))); (first | done | fail "no"))).mono ?_); rintro e1 w1 ⟨rfl, h1⟩; obtain ⟨d0, d1, d2⟩ := HBX.out w1 (by (with_reducible (repeat (first | exact Ext.refl _ | assumption | (refine Ext.toSet ?_ (by omega)) | refine Ext.toAlloc ?_ | refine Ext.toDrew ?_ | refine Ext.toDrewN ?_ | refine Ext.trans ?_ (by assumption)))); (first | done | fail "no")))
        | (go_at_call 9; (with_reducible refine (HLI.out _ _ (by (with_reducible (repeat (first | exact Ext.refl _ | assumption | (refine Ext.toSet ?_ (by omega)) | refine Ext.toAlloc ?_ | refine Ext.toDrew ?_ | refine Ext.toDrewN ?_ | refine Ext.trans ?_ (by assumption)))); (first | done | fail "no"))).mono ?_); rintro e1 w1 ⟨rfl, h1⟩; obtain ⟨d0, d1, d2⟩ := HBX.out w1 (by (with_reducible (repeat (first | exact Ext.refl _ | assumption | (refine Ext.toSet ?_ (by omega)) | refine Ext.toAlloc ?_ | refine Ext.toDrew ?_ | refine Ext.toDrewN ?_ | refine Ext.trans ?_ (by assumption)))); (first | done | fail "no")))
        | (go_at_call 10; (with_reducible refine (HLE.out _ (by (with_reducible (repeat (first | exact Ext.refl _ | assumption | (refine Ext.toSet ?_ (by omega)) | refine Ext.toAlloc ?_ | refine Ext.toDrew ?_ | refine Ext.toDrewN ?_ | refine Ext.trans ?_ (by assumption)))); (first | done | fail "no"))).mono ?_); rintro e1 w1 ⟨rfl, h1⟩; obtain ⟨d0, d1, d2⟩ := HBX.out w1 (by (with_reducible (repeat (first | exact Ext.refl _ | assumption | (refine Ext.toSet ?_ (by omega)) | refine Ext.toAlloc ?_ | refine Ext.toDrew ?_ | refine Ext.toDrewN ?_ | refine Ext.trans ?_ (by assumption)))); (first | done | fail "no"))))
      go_ret
      exact ⟨rfl, HE.out.trans (by (with_reducible (repeat (first | exact Ext.refl _ | assumption | (refine Ext.toSet ?_ (by omega)) | refine Ext.toAlloc ?_ | refine Ext.toDrew ?_ | refine Ext.toDrewN ?_ | refine Ext.trans ?_ (by assumption)))); (first | done | fail "no"))⟩
    | true =>
      rw [hle] at HLE
      obtain ⟨hn100, el, er⟩ := st.el hle
      by_cases hck : chk D = 0
      · have ok := chk_ok hck
        have hnb := ok.nb
        have hdl := del_le D
        have g0 : ((0 : Int) != 0) = false := by decide
        rw [hck] at HRC
        have HSM : Hid (∀ (w' : World) (A B : Option Addr) (k ca cb : Nat) (R R' : Nat → RN) (V : Nat → DV), Ln w' A k R V → Ln w' B k R' V → k ≤ 100000 → Calls Tryz.prog 16 #[.slice A k ca, .slice B k cb] w' fun e w'' => e = .returned (.bool true) ∧ Ext w' w'') := fun w' A B k ca cb R R' V a b h => rsameL_any a b h
        have HSA : Hid (∀ w', Ext W1 w' → Calls Tryz.prog 12 #[dgv D p] w' (SaB D (delL D).length w')) := fun w' e => Start_good (d.ext (hE.trans e)) (hT.ext (hE.trans e)) hck
        have HRA : Hid (∀ w', Ext W1 w' → Calls Tryz.prog 17 #[dgv D p] w' (LnR (delL D).length (s0S D) w')) := fun w' e => rstart_any (d.ext (hE.trans e)) ok
        have HRSP : Hid (∀ w', Ext W1 w' → Calls Tryz.prog 15 #[dgv D p, .slice As n cs, .slice Ai m ci] w' (RsP (fun _ => True) D n (stO R F) (stV R F) m IN w')) := fun w' e => rstep_any (d.ext (hE.trans e)) ok (st.rs.ext (hE.trans e)) (fun k hk => (er k hk).ext (hE.trans e)) (r.ext (hE.trans e)) hm st.hn (fun _ _ => trivial) (fun _ _ _ _ _ => trivial)
        generalize (delL D).length = ld at *
        by_cases hst : stE D n (stO R F) (stV R F) m IN = 0
        · have HST : Hid (∀ w', Ext W1 w' → Calls Tryz.prog 11 #[dgv D p, .slice As n cs, .slice Ai m ci] w' (StB D n (stV R F) IN w')) := fun w' e => Step_good (d.ext (hE.trans e)) (hT.ext (hE.trans e)) hck (st.rs.ext (hE.trans e)) (fun k hk => (el k hk).ext (hE.trans e)) (r.ext (hE.trans e)) hm hst
          have HRS : Hid (∀ w', Ext W1 w' → Calls Tryz.prog 15 #[dgv D p, .slice As n cs, .slice Ai m ci] w' (fun e w'' => ∃ A c R1 g R2, e = .returned (.tuple #[.slice A n c, .slice (some ⟨g, 0, none⟩) D.nb D.nb, I 0]) ∧ Ln w'' A n R1 (nxS D (tkV D (stV R F) IN)) ∧ Ln w'' (some ⟨g, 0, none⟩) D.nb R2 (tkV D (stV R F) IN) ∧ Ext w' w'')) := fun w' e => (HRSP.out w' e).mono fun e w'' h => by
            rcases h with ⟨h1, _⟩ | ⟨_, A, c, R1, g, R2, h2, h3, h4, _, _, _, h5⟩
            · exact absurd hst h1
            · exact ⟨A, c, R1, g, R2, h2, h3, h4, h5⟩
          clear d hT st r hm hbd hnl hlt hE hle el er hck ok hst HRSP
          go_enter Tryz.func3, Tryz.ntmps3
          go_upto_region 1 with fail
          rw [← hW1] at c0 c1 c2
          rw [← hW1]; clear hW1
          go_wp2_with (first
            | (go_at_call 8; (with_reducible refine (HA.out _ (by (with_reducible (repeat (first | exact Ext.refl _ | assumption | (refine Ext.toSet ?_ (by omega)) | refine Ext.toAlloc ?_ | refine Ext.toDrew ?_ | refine Ext.toDrewN ?_ | refine Ext.trans ?_ (by assumption)))); (first | done | fail "no"))).mono ?_); rintro e1 w1 ⟨rfl, h1⟩; obtain ⟨d0, d1, d2⟩ := HBX.out w1 (by (with_reducible (repeat (first | exact Ext.refl _ | assumption | (refine Ext.toSet ?_ (by omega)) | refine Ext.toAlloc ?_ | refine Ext.toDrew ?_ | refine Ext.toDrewN ?_ | refine Ext.trans ?_ (by assumption)))); (first | done | fail "no")))
            | (go_at_call 9; (with_reducible refine (HLI.out _ _ (by (with_reducible (repeat (first | exact Ext.refl _ | assumption | (refine Ext.toSet ?_ (by omega)) | refine Ext.toAlloc ?_ | refine Ext.toDrew ?_ | refine Ext.toDrewN ?_ | refine Ext.trans ?_ (by assumption)))); (first | done | fail "no"))).mono ?_); rintro e1 w1 ⟨rfl, h1⟩; obtain ⟨d0, d1, d2⟩ := HBX.out w1 (by (with_reducible (repeat (first | exact Ext.refl _ | assumption | (refine Ext.toSet ?_ (by omega)) | refine Ext.toAlloc ?_ | refine Ext.toDrew ?_ | refine Ext.toDrewN ?_ | refine Ext.trans ?_ (by assumption)))); (first | done | fail "no")))
            | (go_at_call 10; (with_reducible refine (HLE.out _ (by (with_reducible (repeat (first | exact Ext.refl _ | assumption | (refine Ext.toSet ?_ (by omega)) | refine Ext.toAlloc ?_ | refine Ext.toDrew ?_ | refine Ext.toDrewN ?_ | refine Ext.trans ?_ (by assumption)))); (first | done | fail "no"))).mono ?_); rintro e1 w1 ⟨rfl, h1⟩; obtain ⟨d0, d1, d2⟩ := HBX.out w1 (by (with_reducible (repeat (first | exact Ext.refl _ | assumption | (refine Ext.toSet ?_ (by omega)) | refine Ext.toAlloc ?_ | refine Ext.toDrew ?_ | refine Ext.toDrewN ?_ | refine Ext.trans ?_ (by assumption)))); (first | done | fail "no")))
            | (go_at_call 13; (with_reducible refine (HRC.out _ (by (with_reducible (repeat (first | exact Ext.refl _ | assumption | (refine Ext.toSet ?_ (by omega)) | refine Ext.toAlloc ?_ | refine Ext.toDrew ?_ | refine Ext.toDrewN ?_ | refine Ext.trans ?_ (by assumption)))); (first | done | fail "no"))).mono ?_); rintro e1 w1 ⟨rfl, h1⟩; obtain ⟨d0, d1, d2⟩ := HBX.out w1 (by (with_reducible (repeat (first | exact Ext.refl _ | assumption | (refine Ext.toSet ?_ (by omega)) | refine Ext.toAlloc ?_ | refine Ext.toDrew ?_ | refine Ext.toDrewN ?_ | refine Ext.trans ?_ (by assumption)))); (first | done | fail "no")))
            | (go_at_call 11; (with_reducible refine (HST.out _ (by (with_reducible (repeat (first | exact Ext.refl _ | assumption | (refine Ext.toSet ?_ (by omega)) | refine Ext.toAlloc ?_ | refine Ext.toDrew ?_ | refine Ext.toDrewN ?_ | refine Ext.trans ?_ (by assumption)))); (first | done | fail "no"))).mono ?_); rintro e1 w3 ⟨g3, R3, g5, R5, rfl, l3, l5, _, _, h1⟩; have HL3 := Lib.hid l3.ln; have HL5 := Lib.hid l5.ln; clear l3 l5; obtain ⟨d0, d1, d2⟩ := HBX.out w3 (by (with_reducible (repeat (first | exact Ext.refl _ | assumption | (refine Ext.toSet ?_ (by omega)) | refine Ext.toAlloc ?_ | refine Ext.toDrew ?_ | refine Ext.toDrewN ?_ | refine Ext.trans ?_ (by assumption)))); (first | done | fail "no")))
            | (go_at_call 12; (with_reducible refine (HSA.out _ (by (with_reducible (repeat (first | exact Ext.refl _ | assumption | (refine Ext.toSet ?_ (by omega)) | refine Ext.toAlloc ?_ | refine Ext.toDrew ?_ | refine Ext.toDrewN ?_ | refine Ext.trans ?_ (by assumption)))); (first | done | fail "no"))).mono ?_); rintro e1 w4 ⟨g4, R4, rfl, l4, n4, h1⟩; have HL4 := Lib.hid l4.ln; clear l4 n4; obtain ⟨d0, d1, d2⟩ := HBX.out w4 (by (with_reducible (repeat (first | exact Ext.refl _ | assumption | (refine Ext.toSet ?_ (by omega)) | refine Ext.toAlloc ?_ | refine Ext.toDrew ?_ | refine Ext.toDrewN ?_ | refine Ext.trans ?_ (by assumption)))); (first | done | fail "no")))
            | (go_at_call 15; (with_reducible refine (HRS.out _ (by (with_reducible (repeat (first | exact Ext.refl _ | assumption | (refine Ext.toSet ?_ (by omega)) | refine Ext.toAlloc ?_ | refine Ext.toDrew ?_ | refine Ext.toDrewN ?_ | refine Ext.trans ?_ (by assumption)))); (first | done | fail "no"))).mono ?_); rintro e1 w6 ⟨A6, c6, R6, g8, R8, rfl, l6, l8, h1⟩; have HL6 := Lib.hid l6; have HL8 := Lib.hid l8; clear l6 l8; obtain ⟨d0, d1, d2⟩ := HBX.out w6 (by (with_reducible (repeat (first | exact Ext.refl _ | assumption | (refine Ext.toSet ?_ (by omega)) | refine Ext.toAlloc ?_ | refine Ext.toDrew ?_ | refine Ext.toDrewN ?_ | refine Ext.trans ?_ (by assumption)))); (first | done | fail "no")))
            | (go_at_call 14; (with_reducible refine (num_nil _).mono ?_); rintro e1 w1 ⟨rfl, h1⟩; obtain ⟨d0, d1, d2⟩ := HBX.out w1 (by (with_reducible (repeat (first | exact Ext.refl _ | assumption | (refine Ext.toSet ?_ (by omega)) | refine Ext.toAlloc ?_ | refine Ext.toDrew ?_ | refine Ext.toDrewN ?_ | refine Ext.trans ?_ (by assumption)))); (first | done | fail "no")))
            | (go_at_call 16; (with_reducible refine (HSM.out _ _ _ _ _ _ _ _ _ (HL3.out.ext (by (with_reducible (repeat (first | exact Ext.refl _ | assumption | (refine Ext.toSet ?_ (by omega)) | refine Ext.toAlloc ?_ | refine Ext.toDrew ?_ | refine Ext.toDrewN ?_ | refine Ext.trans ?_ (by assumption)))); (first | done | fail "no"))) (HL6.out.ext (by (with_reducible (repeat (first | exact Ext.refl _ | assumption | (refine Ext.toSet ?_ (by omega)) | refine Ext.toAlloc ?_ | refine Ext.toDrew ?_ | refine Ext.toDrewN ?_ | refine Ext.trans ?_ (by assumption)))); (first | done | fail "no"))) (by omega)).mono ?_); rintro e1 w1 ⟨rfl, h1⟩; obtain ⟨d0, d1, d2⟩ := HBX.out w1 (by (with_reducible (repeat (first | exact Ext.refl _ | assumption | (refine Ext.toSet ?_ (by omega)) | refine Ext.toAlloc ?_ | refine Ext.toDrew ?_ | refine Ext.toDrewN ?_ | refine Ext.trans ?_ (by assumption)))); (first | done | fail "no")))
            | (go_at_call 16; (with_reducible refine (HSM.out _ _ _ _ _ _ _ _ _ (HL5.out.ext (by (with_reducible (repeat (first | exact Ext.refl _ | assumption | (refine Ext.toSet ?_ (by omega)) | refine Ext.toAlloc ?_ | refine Ext.toDrew ?_ | refine Ext.toDrewN ?_ | refine Ext.trans ?_ (by assumption)))); (first | done | fail "no"))) (HL8.out.ext (by (with_reducible (repeat (first | exact Ext.refl _ | assumption | (refine Ext.toSet ?_ (by omega)) | refine Ext.toAlloc ?_ | refine Ext.toDrew ?_ | refine Ext.toDrewN ?_ | refine Ext.trans ?_ (by assumption)))); (first | done | fail "no"))) (by omega)).mono ?_); rintro e1 w1 ⟨rfl, h1⟩; obtain ⟨d0, d1, d2⟩ := HBX.out w1 (by (with_reducible (repeat (first | exact Ext.refl _ | assumption | (refine Ext.toSet ?_ (by omega)) | refine Ext.toAlloc ?_ | refine Ext.toDrew ?_ | refine Ext.toDrewN ?_ | refine Ext.trans ?_ (by assumption)))); (first | done | fail "no")))
            | (go_at_call 17; (with_reducible refine (HRA.out _ (by (with_reducible (repeat (first | exact Ext.refl _ | assumption | (refine Ext.toSet ?_ (by omega)) | refine Ext.toAlloc ?_ | refine Ext.toDrew ?_ | refine Ext.toDrewN ?_ | refine Ext.trans ?_ (by assumption)))); (first | done | fail "no"))).mono ?_); rintro e1 w7 ⟨A7, c7, R7, rfl, l7, h1⟩; have HL7 := Lib.hid l7; clear l7; obtain ⟨d0, d1, d2⟩ := HBX.out w7 (by (with_reducible (repeat (first | exact Ext.refl _ | assumption | (refine Ext.toSet ?_ (by omega)) | refine Ext.toAlloc ?_ | refine Ext.toDrew ?_ | refine Ext.toDrewN ?_ | refine Ext.trans ?_ (by assumption)))); (first | done | fail "no")))
            | (go_at_call 16; (with_reducible refine (HSM.out _ _ _ _ _ _ _ _ _ (HL4.out.ext (by (with_reducible (repeat (first | exact Ext.refl _ | assumption | (refine Ext.toSet ?_ (by omega)) | refine Ext.toAlloc ?_ | refine Ext.toDrew ?_ | refine Ext.toDrewN ?_ | refine Ext.trans ?_ (by assumption)))); (first | done | fail "no"))) (HL7.out.ext (by (with_reducible (repeat (first | exact Ext.refl _ | assumption | (refine Ext.toSet ?_ (by omega)) | refine Ext.toAlloc ?_ | refine Ext.toDrew ?_ | refine Ext.toDrewN ?_ | refine Ext.trans ?_ (by assumption)))); (first | done | fail "no"))) (by omega)).mono ?_); rintro e1 w1 ⟨rfl, h1⟩))
          go_ret
          exact ⟨by simp, HE.out.trans (by (with_reducible (repeat (first | exact Ext.refl _ | assumption | (refine Ext.toSet ?_ (by omega)) | refine Ext.toAlloc ?_ | refine Ext.toDrew ?_ | refine Ext.toDrewN ?_ | refine Ext.trans ?_ (by assumption)))); (first | done | fail "no"))⟩
        · have HST : Hid (∀ w', Ext W1 w' → Calls Tryz.prog 11 #[dgv D p, .slice As n cs, .slice Ai m ci] w' fun e w'' => e = .returned (.tuple #[.slice none 0 0, .slice none 0 0, .iface 54 (I (stE D n (stO R F) (stV R F) m IN))]) ∧ Ext w' w'') := fun w' e => Step_bad (d.ext (hE.trans e)) (hT.ext (hE.trans e)) hck (st.rs.ext (hE.trans e)) (fun k hk => (el k hk).ext (hE.trans e)) (r.ext (hE.trans e)) hm hst
          have HRS : Hid (∀ w', Ext W1 w' → Calls Tryz.prog 15 #[dgv D p, .slice As n cs, .slice Ai m ci] w' (fun e w'' => e = .returned (.tuple #[.slice none 0 0, .slice none 0 0, I (stE D n (stO R F) (stV R F) m IN)]) ∧ Ext w' w'')) := fun w' e => (HRSP.out w' e).mono fun e w'' h => by
            rcases h with ⟨_, h1⟩ | ⟨h2, _⟩
            · exact h1
            · exact absurd h2 hst
          have HSZ : Hid (∀ w', Calls Tryz.prog 16 #[.slice none 0 0, .slice none 0 0] w' fun e w'' => e = .returned (.bool true) ∧ Ext w' w'') := fun w' => rsameL_any (R := fun _ => RN.z) (R' := fun _ => RN.z) (V := fun _ => DV.zero) Ln.none_ Ln.none_ (by omega)
          clear d hT st r hm hbd hnl hlt hE hle el er hck ok hst HRSP
          generalize stE D n (stO R F) (stV R F) m IN = code at *
          go_enter Tryz.func3, Tryz.ntmps3
          go_upto_region 1 with fail
          rw [← hW1] at c0 c1 c2
          rw [← hW1]; clear hW1
          go_wp2_with (first
            | (go_at_call 8; (with_reducible refine (HA.out _ (by (with_reducible (repeat (first | exact Ext.refl _ | assumption | (refine Ext.toSet ?_ (by omega)) | refine Ext.toAlloc ?_ | refine Ext.toDrew ?_ | refine Ext.toDrewN ?_ | refine Ext.trans ?_ (by assumption)))); (first | done | fail "no"))).mono ?_); rintro e1 w1 ⟨rfl, h1⟩; obtain ⟨d0, d1, d2⟩ := HBX.out w1 (by (with_reducible (repeat (first | exact Ext.refl _ | assumption | (refine Ext.toSet ?_ (by omega)) | refine Ext.toAlloc ?_ | refine Ext.toDrew ?_ | refine Ext.toDrewN ?_ | refine Ext.trans ?_ (by assumption)))); (first | done | fail "no")))
            | (go_at_call 9; (with_reducible refine (HLI.out _ _ (by (with_reducible (repeat (first | exact Ext.refl _ | assumption | (refine Ext.toSet ?_ (by omega)) | refine Ext.toAlloc ?_ | refine Ext.toDrew ?_ | refine Ext.toDrewN ?_ | refine Ext.trans ?_ (by assumption)))); (first | done | fail "no"))).mono ?_); rintro e1 w1 ⟨rfl, h1⟩; obtain ⟨d0, d1, d2⟩ := HBX.out w1 (by (with_reducible (repeat (first | exact Ext.refl _ | assumption | (refine Ext.toSet ?_ (by omega)) | refine Ext.toAlloc ?_ | refine Ext.toDrew ?_ | refine Ext.toDrewN ?_ | refine Ext.trans ?_ (by assumption)))); (first | done | fail "no")))
            | (go_at_call 10; (with_reducible refine (HLE.out _ (by (with_reducible (repeat (first | exact Ext.refl _ | assumption | (refine Ext.toSet ?_ (by omega)) | refine Ext.toAlloc ?_ | refine Ext.toDrew ?_ | refine Ext.toDrewN ?_ | refine Ext.trans ?_ (by assumption)))); (first | done | fail "no"))).mono ?_); rintro e1 w1 ⟨rfl, h1⟩; obtain ⟨d0, d1, d2⟩ := HBX.out w1 (by (with_reducible (repeat (first | exact Ext.refl _ | assumption | (refine Ext.toSet ?_ (by omega)) | refine Ext.toAlloc ?_ | refine Ext.toDrew ?_ | refine Ext.toDrewN ?_ | refine Ext.trans ?_ (by assumption)))); (first | done | fail "no")))
            | (go_at_call 13; (with_reducible refine (HRC.out _ (by (with_reducible (repeat (first | exact Ext.refl _ | assumption | (refine Ext.toSet ?_ (by omega)) | refine Ext.toAlloc ?_ | refine Ext.toDrew ?_ | refine Ext.toDrewN ?_ | refine Ext.trans ?_ (by assumption)))); (first | done | fail "no"))).mono ?_); rintro e1 w1 ⟨rfl, h1⟩; obtain ⟨d0, d1, d2⟩ := HBX.out w1 (by (with_reducible (repeat (first | exact Ext.refl _ | assumption | (refine Ext.toSet ?_ (by omega)) | refine Ext.toAlloc ?_ | refine Ext.toDrew ?_ | refine Ext.toDrewN ?_ | refine Ext.trans ?_ (by assumption)))); (first | done | fail "no")))
            | (go_at_call 11; (with_reducible refine (HST.out _ (by (with_reducible (repeat (first | exact Ext.refl _ | assumption | (refine Ext.toSet ?_ (by omega)) | refine Ext.toAlloc ?_ | refine Ext.toDrew ?_ | refine Ext.toDrewN ?_ | refine Ext.trans ?_ (by assumption)))); (first | done | fail "no"))).mono ?_); rintro e1 w1 ⟨rfl, h1⟩; obtain ⟨d0, d1, d2⟩ := HBX.out w1 (by (with_reducible (repeat (first | exact Ext.refl _ | assumption | (refine Ext.toSet ?_ (by omega)) | refine Ext.toAlloc ?_ | refine Ext.toDrew ?_ | refine Ext.toDrewN ?_ | refine Ext.trans ?_ (by assumption)))); (first | done | fail "no")))
            | (go_at_call 12; (with_reducible refine (HSA.out _ (by (with_reducible (repeat (first | exact Ext.refl _ | assumption | (refine Ext.toSet ?_ (by omega)) | refine Ext.toAlloc ?_ | refine Ext.toDrew ?_ | refine Ext.toDrewN ?_ | refine Ext.trans ?_ (by assumption)))); (first | done | fail "no"))).mono ?_); rintro e1 w4 ⟨g4, R4, rfl, l4, n4, h1⟩; have HL4 := Lib.hid l4.ln; clear l4 n4; obtain ⟨d0, d1, d2⟩ := HBX.out w4 (by (with_reducible (repeat (first | exact Ext.refl _ | assumption | (refine Ext.toSet ?_ (by omega)) | refine Ext.toAlloc ?_ | refine Ext.toDrew ?_ | refine Ext.toDrewN ?_ | refine Ext.trans ?_ (by assumption)))); (first | done | fail "no")))
            | (go_at_call 15; (with_reducible refine (HRS.out _ (by (with_reducible (repeat (first | exact Ext.refl _ | assumption | (refine Ext.toSet ?_ (by omega)) | refine Ext.toAlloc ?_ | refine Ext.toDrew ?_ | refine Ext.toDrewN ?_ | refine Ext.trans ?_ (by assumption)))); (first | done | fail "no"))).mono ?_); rintro e1 w1 ⟨rfl, h1⟩; obtain ⟨d0, d1, d2⟩ := HBX.out w1 (by (with_reducible (repeat (first | exact Ext.refl _ | assumption | (refine Ext.toSet ?_ (by omega)) | refine Ext.toAlloc ?_ | refine Ext.toDrew ?_ | refine Ext.toDrewN ?_ | refine Ext.trans ?_ (by assumption)))); (first | done | fail "no")))
            | (go_at_call 14; (with_reducible refine (num_err _ _).mono ?_); rintro e1 w1 ⟨rfl, h1⟩; obtain ⟨d0, d1, d2⟩ := HBX.out w1 (by (with_reducible (repeat (first | exact Ext.refl _ | assumption | (refine Ext.toSet ?_ (by omega)) | refine Ext.toAlloc ?_ | refine Ext.toDrew ?_ | refine Ext.toDrewN ?_ | refine Ext.trans ?_ (by assumption)))); (first | done | fail "no")))
            | (go_at_call 16; (with_reducible refine (HSZ.out _).mono ?_); rintro e1 w1 ⟨rfl, h1⟩; obtain ⟨d0, d1, d2⟩ := HBX.out w1 (by (with_reducible (repeat (first | exact Ext.refl _ | assumption | (refine Ext.toSet ?_ (by omega)) | refine Ext.toAlloc ?_ | refine Ext.toDrew ?_ | refine Ext.toDrewN ?_ | refine Ext.trans ?_ (by assumption)))); (first | done | fail "no")))
            | (go_at_call 17; (with_reducible refine (HRA.out _ (by (with_reducible (repeat (first | exact Ext.refl _ | assumption | (refine Ext.toSet ?_ (by omega)) | refine Ext.toAlloc ?_ | refine Ext.toDrew ?_ | refine Ext.toDrewN ?_ | refine Ext.trans ?_ (by assumption)))); (first | done | fail "no"))).mono ?_); rintro e1 w7 ⟨A7, c7, R7, rfl, l7, h1⟩; have HL7 := Lib.hid l7; clear l7; obtain ⟨d0, d1, d2⟩ := HBX.out w7 (by (with_reducible (repeat (first | exact Ext.refl _ | assumption | (refine Ext.toSet ?_ (by omega)) | refine Ext.toAlloc ?_ | refine Ext.toDrew ?_ | refine Ext.toDrewN ?_ | refine Ext.trans ?_ (by assumption)))); (first | done | fail "no")))
            | (go_at_call 16; (with_reducible refine (HSM.out _ _ _ _ _ _ _ _ _ (HL4.out.ext (by (with_reducible (repeat (first | exact Ext.refl _ | assumption | (refine Ext.toSet ?_ (by omega)) | refine Ext.toAlloc ?_ | refine Ext.toDrew ?_ | refine Ext.toDrewN ?_ | refine Ext.trans ?_ (by assumption)))); (first | done | fail "no"))) (HL7.out.ext (by (with_reducible (repeat (first | exact Ext.refl _ | assumption | (refine Ext.toSet ?_ (by omega)) | refine Ext.toAlloc ?_ | refine Ext.toDrew ?_ | refine Ext.toDrewN ?_ | refine Ext.trans ?_ (by assumption)))); (first | done | fail "no"))) (by omega)).mono ?_); rintro e1 w1 ⟨rfl, h1⟩))
          go_ret
          exact ⟨by simp, HE.out.trans (by (with_reducible (repeat (first | exact Ext.refl _ | assumption | (refine Ext.toSet ?_ (by omega)) | refine Ext.toAlloc ?_ | refine Ext.toDrew ?_ | refine Ext.toDrewN ?_ | refine Ext.trans ?_ (by assumption)))); (first | done | fail "no"))⟩
      · have g0 : ((chk D) != 0) = true := by simpa using hck
        have HST : Hid (∀ w', Ext W1 w' → Calls Tryz.prog 11 #[dgv D p, .slice As n cs, .slice Ai m ci] w' fun e w'' => e = .returned (.tuple #[.slice none 0 0, .slice none 0 0, .iface 54 (I (chk D))]) ∧ Ext w' w'') := fun w' e => Step_err (d.ext (hE.trans e)) (hT.ext (hE.trans e)) hck
        have HSA : Hid (∀ w', Ext W1 w' → Calls Tryz.prog 12 #[dgv D p] w' fun e w'' => e = .returned (.tuple #[.slice none 0 0, .iface 54 (I (chk D))]) ∧ Ext w' w'') := fun w' e => Start_err (d.ext (hE.trans e)) (hT.ext (hE.trans e)) hck
        clear d hT st r hm hbd hnl hlt hE hle el er hck
        generalize chk D = code at *
        go_enter Tryz.func3, Tryz.ntmps3
        go_upto_region 1 with fail
        rw [← hW1] at c0 c1 c2
        rw [← hW1]; clear hW1
        go_wp2_with (first
          | (go_at_call 8; (with_reducible refine (HA.out _ (by (with_reducible (repeat (first | exact Ext.refl _ | assumption | (refine Ext.toSet ?_ (by omega)) | refine Ext.toAlloc ?_ | refine Ext.toDrew ?_ | refine Ext.toDrewN ?_ | refine Ext.trans ?_ (by assumption)))); (first | done | fail "no"))).mono ?_); rintro e1 w1 ⟨rfl, h1⟩; obtain ⟨d0, d1, d2⟩ := HBX.out w1 (by (with_reducible (repeat (first | exact Ext.refl _ | assumption | (refine Ext.toSet ?_ (by omega)) | refine Ext.toAlloc ?_ | refine Ext.toDrew ?_ | refine Ext.toDrewN ?_ | refine Ext.trans ?_ (by assumption)))); (first | done | fail "no")))
          | (go_at_call 9; (with_reducible refine (HLI.out _ _ (by (with_reducible (repeat (first | exact Ext.refl _ | assumption | (refine Ext.toSet ?_ (by omega)) | refine Ext.toAlloc ?_ | refine Ext.toDrew ?_ | refine Ext.toDrewN ?_ | refine Ext.trans ?_ (by assumption)))); (first | done | fail "no"))).mono ?_); rintro e1 w1 ⟨rfl, h1⟩; obtain ⟨d0, d1, d2⟩ := HBX.out w1 (by (with_reducible (repeat (first | exact Ext.refl _ | assumption | (refine Ext.toSet ?_ (by omega)) | refine Ext.toAlloc ?_ | refine Ext.toDrew ?_ | refine Ext.toDrewN ?_ | refine Ext.trans ?_ (by assumption)))); (first | done | fail "no")))
          | (go_at_call 10; (with_reducible refine (HLE.out _ (by (with_reducible (repeat (first | exact Ext.refl _ | assumption | (refine Ext.toSet ?_ (by omega)) | refine Ext.toAlloc ?_ | refine Ext.toDrew ?_ | refine Ext.toDrewN ?_ | refine Ext.trans ?_ (by assumption)))); (first | done | fail "no"))).mono ?_); rintro e1 w1 ⟨rfl, h1⟩; obtain ⟨d0, d1, d2⟩ := HBX.out w1 (by (with_reducible (repeat (first | exact Ext.refl _ | assumption | (refine Ext.toSet ?_ (by omega)) | refine Ext.toAlloc ?_ | refine Ext.toDrew ?_ | refine Ext.toDrewN ?_ | refine Ext.trans ?_ (by assumption)))); (first | done | fail "no")))
          | (go_at_call 11; (with_reducible refine (HST.out _ (by (with_reducible (repeat (first | exact Ext.refl _ | assumption | (refine Ext.toSet ?_ (by omega)) | refine Ext.toAlloc ?_ | refine Ext.toDrew ?_ | refine Ext.toDrewN ?_ | refine Ext.trans ?_ (by assumption)))); (first | done | fail "no"))).mono ?_); rintro e1 w1 ⟨rfl, h1⟩; obtain ⟨d0, d1, d2⟩ := HBX.out w1 (by (with_reducible (repeat (first | exact Ext.refl _ | assumption | (refine Ext.toSet ?_ (by omega)) | refine Ext.toAlloc ?_ | refine Ext.toDrew ?_ | refine Ext.toDrewN ?_ | refine Ext.trans ?_ (by assumption)))); (first | done | fail "no")))
          | (go_at_call 12; (with_reducible refine (HSA.out _ (by (with_reducible (repeat (first | exact Ext.refl _ | assumption | (refine Ext.toSet ?_ (by omega)) | refine Ext.toAlloc ?_ | refine Ext.toDrew ?_ | refine Ext.toDrewN ?_ | refine Ext.trans ?_ (by assumption)))); (first | done | fail "no"))).mono ?_); rintro e1 w1 ⟨rfl, h1⟩; obtain ⟨d0, d1, d2⟩ := HBX.out w1 (by (with_reducible (repeat (first | exact Ext.refl _ | assumption | (refine Ext.toSet ?_ (by omega)) | refine Ext.toAlloc ?_ | refine Ext.toDrew ?_ | refine Ext.toDrewN ?_ | refine Ext.trans ?_ (by assumption)))); (first | done | fail "no")))
          | (go_at_call 13; (with_reducible refine (HRC.out _ (by (with_reducible (repeat (first | exact Ext.refl _ | assumption | (refine Ext.toSet ?_ (by omega)) | refine Ext.toAlloc ?_ | refine Ext.toDrew ?_ | refine Ext.toDrewN ?_ | refine Ext.trans ?_ (by assumption)))); (first | done | fail "no"))).mono ?_); rintro e1 w1 ⟨rfl, h1⟩; obtain ⟨d0, d1, d2⟩ := HBX.out w1 (by (with_reducible (repeat (first | exact Ext.refl _ | assumption | (refine Ext.toSet ?_ (by omega)) | refine Ext.toAlloc ?_ | refine Ext.toDrew ?_ | refine Ext.toDrewN ?_ | refine Ext.trans ?_ (by assumption)))); (first | done | fail "no")))
          | (go_at_call 14; (with_reducible refine (num_err _ _).mono ?_); rintro e1 w1 ⟨rfl, h1⟩; obtain ⟨d0, d1, d2⟩ := HBX.out w1 (by (with_reducible (repeat (first | exact Ext.refl _ | assumption | (refine Ext.toSet ?_ (by omega)) | refine Ext.toAlloc ?_ | refine Ext.toDrew ?_ | refine Ext.toDrewN ?_ | refine Ext.trans ?_ (by assumption)))); (first | done | fail "no"))))
        go_ret
        exact ⟨by simp, HE.out.trans (by (with_reducible (repeat (first | exact Ext.refl _ | assumption | (refine Ext.toSet ?_ (by omega)) | refine Ext.toAlloc ?_ | refine Ext.toDrew ?_ | refine Ext.toDrewN ?_ | refine Ext.trans ?_ (by assumption)))); (first | done | fail "no"))⟩
end Go.Proofs.YtgnaljnmjphleaaGreatDoor

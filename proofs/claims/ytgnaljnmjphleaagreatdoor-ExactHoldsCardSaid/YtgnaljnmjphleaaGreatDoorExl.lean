/- The law ExactHolds. -/
import Derived.Test.YtgnaljnmjphleaaGreatDoorExi
import Derived.Test.YtgnaljnmjphleaaGreatDoorExk
namespace Go.Proofs.YtgnaljnmjphleaaGreatDoor
open Go Go.RowKit

theorem rsame_cn {w : World} {r r' : RN} {d : DV} (a : Cn w r d) (b : Cn w r' d) : Calls Tryz.prog 25 #[r.v, r'.v] w fun e w' => e = .returned (.bool true) ∧ Ext w w' := by
  have := dsame_true a.rd b.rd (ca := r.c) (cb := r'.c) (by have := a.lim; omega)
  show Calls _ _ #[dv r.neg r.A r.n r.c r.den, dv r'.neg r'.A r'.n r'.c r'.den] _ _
  rw [a.neg, a.n, a.den, b.neg, b.n, b.den]
  exact this
/-- The box of what is wanted holds the number. -/
structure WtM (W w : World) (g : Nat) (r : RN) (d : DV) : Prop where
  ext : Ext W w
  c0 : w.cell? ⟨g, 0, none⟩ = some (.bool r.neg)
  c1 : w.cell? ⟨g, 1, none⟩ = some (.slice r.A r.n r.c)
  c2 : w.cell? ⟨g, 2, none⟩ = some (I r.den)
  cn : Cn w r d
  lt : g < w.heap.size
theorem WtM.of {W w : World} {g : Nat} {r : RN} {d : DV} {a b c : Value} (e : Ext W w) (hg : W.heap.size ≤ g) (hb : Bx w g a b c) (cn : Cn w r d) (hne : 0 < len d.m → ∀ a, r.A = some a → a.block ≠ g) :
    WtM W (((w.setCell ⟨g, 0, none⟩ (.bool r.neg)).setCell ⟨g, 1, none⟩ (.slice r.A r.n r.c)).setCell ⟨g, 2, none⟩ (I r.den)) g r d := by
  obtain ⟨⟨q0, q1, q2⟩, _⟩ := hb
  have hl : g < w.heap.size := World.block_lt_of_cell? w _ q0
  refine ⟨ext_set3 e hg _ _ _, ?_, ?_, ?_, cn.fr (fr_trans (fr_trans (fr_set _ _ _ _) (fr_set _ _ _ _)) (fr_set _ _ _ _)) hne, by simpa using hl⟩
  · go_simp
  · go_simp
  · go_simp
theorem WtM.to {W w w' : World} {g : Nat} {r : RN} {d : DV} (h : WtM W w g r d) (e : Ext w w') : WtM W w' g r d :=
  ⟨h.ext.trans e, (e.old.1 _ _ h.lt).trans h.c0, (e.old.1 _ _ h.lt).trans h.c1, (e.old.1 _ _ h.lt).trans h.c2, h.cn.ext e, Nat.lt_of_lt_of_le h.lt e.size⟩
theorem plc_succ {D : Dia} {i : Nat} : plc D (i + 1) = plc D i + if isD D i = true then 1 else 0 := by
  unfold plc
  show cnt i (isD D) + (if isD D i = true then 1 else 0) = _
  rfl

set_option maxRecDepth 100000 in
set_option maxHeartbeats 8000000 in
theorem exactHolds_any {w : World} {D : Dia} {p : Pl} {Al : Option Addr} {n cl : Nat} {AA : Nat → Option Addr} {m c : Nat → Nat} {IN : Nat → Nat → Int} (d : Dm w D p) (hT : Tabs w) (l : Lli w Al n AA m c IN) (hn : n ≤ maxLen) :
    Calls Tryz.prog 5 #[dgv D p, .slice Al n cl] w fun e w' => e = .returned (.bool true) ∧ Ext w w' := by
  obtain ⟨W1, hW1⟩ : ∃ W1, W1 = w.alloc (.cells #[.slice p.AI D.ni p.cI, .slice p.AB D.nb p.cB, .slice p.AO D.no p.cO] 26) := ⟨_, rfl⟩
  have hE : Ext w W1 := by rw [hW1]; exact Ext.alloc _ _
  have hbd : Bd W1 w.heap.size D p := by rw [hW1]; exact Bd.new _ _ _ _
  have HBX : Hid (∀ w', Ext W1 w' → w'.cell? ⟨w.heap.size, 0, none⟩ = some (.slice p.AI D.ni p.cI) ∧ w'.cell? ⟨w.heap.size, 1, none⟩ = some (.slice p.AB D.nb p.cB) ∧ w'.cell? ⟨w.heap.size, 2, none⟩ = some (.slice p.AO D.no p.cO)) := fun w' e => by
    have a := hbd.ext e; exact ⟨a.c0, a.c1, a.c2⟩
  have HA : Hid (∀ w', Ext W1 w' → Calls Tryz.prog 8 #[] w' fun e w'' => e = .returned (.bool true) ∧ Ext w' w'') := fun w' e => xawake_any w' (hT.ext (hE.trans e))
  have HLI : Hid (∀ w', Ext W1 w' → Calls Tryz.prog 9 #[dgv D p, .slice Al n cl] w' fun e w'' => e = .returned (.bool (litX D n m)) ∧ Ext w' w'') := fun w' e => lightX_any (d.ext (hE.trans e)) (l.ext (hE.trans e)) hn
  have HCC : Hid (∀ w', Ext W1 w' → Calls Tryz.prog 20 #[dgv D p] w' fun e w'' => e = .returned (errv (chk D)) ∧ Ext w' w'') := fun w' e => check_any (d.ext (hE.trans e)) (hT.ext (hE.trans e))
  have HRC : Hid (∀ w', Ext W1 w' → Calls Tryz.prog 13 #[dgv D p] w' fun e w'' => e = .returned (I (chk D)) ∧ Ext w' w'') := fun w' e => rcheck_any (d.ext (hE.trans e)) (hT.ext (hE.trans e))
  have HE := Lib.hid hE
  obtain ⟨c0, c1, c2⟩ := HBX.out _ (Ext.refl _)
  rw [hW1] at c0 c1 c2
  cases hlt : litX D n m with
  | false =>
    rw [hlt] at HLI
    clear d hT l hbd HRC HCC hlt hE hn
    go_enter Tryz.func5, Tryz.ntmps5
    go_upto_region 1 with fail
    rw [← hW1] at c0 c1 c2
    rw [← hW1]; clear hW1
    go_wp2_with (first
        | (go_at_call 8; (with_reducible refine (HA.out _ (by (with_reducible (repeat (first | exact Ext.refl _ | assumption | (refine Ext.toSet ?_ (by omega)) | refine Ext.toAlloc ?_ | refine Ext.toDrew ?_ | refine Ext.toDrewN ?_ | refine Ext.trans ?_ (by assumption)))); (first | done | fail "no"))).mono ?_); rintro e1 w1 ⟨rfl, h1⟩; obtain ⟨d0, d1, d2⟩ := HBX.out w1 (by (with_reducible (repeat (first | exact Ext.refl _ | assumption | (refine Ext.toSet ?_ (by omega)) | refine Ext.toAlloc ?_ | refine Ext.toDrew ?_ | refine Ext.toDrewN ?_ | refine Ext.trans ?_ (by assumption)))); (first | done | fail "no")))
        | (go_at_call 9; (with_reducible refine (HLI.out _ (by (with_reducible (repeat (first | exact Ext.refl _ | assumption | (refine Ext.toSet ?_ (by omega)) | refine Ext.toAlloc ?_ | refine Ext.toDrew ?_ | refine Ext.toDrewN ?_ | refine Ext.trans ?_ (by assumption)))); (first | done | fail "no"))).mono ?_); rintro e1 w1 ⟨rfl, h1⟩; obtain ⟨d0, d1, d2⟩ := HBX.out w1 (by (with_reducible (repeat (first | exact Ext.refl _ | assumption | (refine Ext.toSet ?_ (by omega)) | refine Ext.toAlloc ?_ | refine Ext.toDrew ?_ | refine Ext.toDrewN ?_ | refine Ext.trans ?_ (by assumption)))); (first | done | fail "no")))
        | (go_at_call 20; (with_reducible refine (HCC.out _ (by (with_reducible (repeat (first | exact Ext.refl _ | assumption | (refine Ext.toSet ?_ (by omega)) | refine Ext.toAlloc ?_ | refine Ext.toDrew ?_ | refine Ext.toDrewN ?_ | refine Ext.trans ?_ (by assumption)))); (first | done | fail "no"))).mono ?_); rintro e1 w1 ⟨rfl, h1⟩; obtain ⟨d0, d1, d2⟩ := HBX.out w1 (by (with_reducible (repeat (first | exact Ext.refl _ | assumption | (refine Ext.toSet ?_ (by omega)) | refine Ext.toAlloc ?_ | refine Ext.toDrew ?_ | refine Ext.toDrewN ?_ | refine Ext.trans ?_ (by assumption)))); (first | done | fail "no"))))
    go_ret
    exact ⟨rfl, HE.out.trans (by (with_reducible (repeat (first | exact Ext.refl _ | assumption | (refine Ext.toSet ?_ (by omega)) | refine Ext.toAlloc ?_ | refine Ext.toDrew ?_ | refine Ext.toDrewN ?_ | refine Ext.trans ?_ (by assumption)))); (first | done | fail "no"))⟩
  | true =>
    rw [hlt] at HLI
    have hn3 := (lit_x hlt).2.1
    by_cases hck : chk D ≠ 0
    · rw [errv_n hck] at HCC
      clear d hT l hbd HRC hlt hE hn hck
      generalize chk D = code at *
      go_enter Tryz.func5, Tryz.ntmps5
      go_upto_region 1 with fail
      rw [← hW1] at c0 c1 c2
      rw [← hW1]; clear hW1
      go_wp2_with (first
        | (go_at_call 8; (with_reducible refine (HA.out _ (by (with_reducible (repeat (first | exact Ext.refl _ | assumption | (refine Ext.toSet ?_ (by omega)) | refine Ext.toAlloc ?_ | refine Ext.toDrew ?_ | refine Ext.toDrewN ?_ | refine Ext.trans ?_ (by assumption)))); (first | done | fail "no"))).mono ?_); rintro e1 w1 ⟨rfl, h1⟩; obtain ⟨d0, d1, d2⟩ := HBX.out w1 (by (with_reducible (repeat (first | exact Ext.refl _ | assumption | (refine Ext.toSet ?_ (by omega)) | refine Ext.toAlloc ?_ | refine Ext.toDrew ?_ | refine Ext.toDrewN ?_ | refine Ext.trans ?_ (by assumption)))); (first | done | fail "no")))
        | (go_at_call 9; (with_reducible refine (HLI.out _ (by (with_reducible (repeat (first | exact Ext.refl _ | assumption | (refine Ext.toSet ?_ (by omega)) | refine Ext.toAlloc ?_ | refine Ext.toDrew ?_ | refine Ext.toDrewN ?_ | refine Ext.trans ?_ (by assumption)))); (first | done | fail "no"))).mono ?_); rintro e1 w1 ⟨rfl, h1⟩; obtain ⟨d0, d1, d2⟩ := HBX.out w1 (by (with_reducible (repeat (first | exact Ext.refl _ | assumption | (refine Ext.toSet ?_ (by omega)) | refine Ext.toAlloc ?_ | refine Ext.toDrew ?_ | refine Ext.toDrewN ?_ | refine Ext.trans ?_ (by assumption)))); (first | done | fail "no")))
        | (go_at_call 20; (with_reducible refine (HCC.out _ (by (with_reducible (repeat (first | exact Ext.refl _ | assumption | (refine Ext.toSet ?_ (by omega)) | refine Ext.toAlloc ?_ | refine Ext.toDrew ?_ | refine Ext.toDrewN ?_ | refine Ext.trans ?_ (by assumption)))); (first | done | fail "no"))).mono ?_); rintro e1 w1 ⟨rfl, h1⟩; obtain ⟨d0, d1, d2⟩ := HBX.out w1 (by (with_reducible (repeat (first | exact Ext.refl _ | assumption | (refine Ext.toSet ?_ (by omega)) | refine Ext.toAlloc ?_ | refine Ext.toDrew ?_ | refine Ext.toDrewN ?_ | refine Ext.trans ?_ (by assumption)))); (first | done | fail "no"))))
      go_ret
      exact ⟨rfl, HE.out.trans (by (with_reducible (repeat (first | exact Ext.refl _ | assumption | (refine Ext.toSet ?_ (by omega)) | refine Ext.toAlloc ?_ | refine Ext.toDrew ?_ | refine Ext.toDrewN ?_ | refine Ext.trans ?_ (by assumption)))); (first | done | fail "no"))⟩
    · have hck : chk D = 0 := by omega
      have ok := chk_ok hck
      rw [hck, errv_z] at HCC
      rw [hck] at HRC
      have hdl := del_le D
      have hnb := ok.nb
      have hni := ok.toWF.ni
      obtain ⟨ld, hld⟩ : ∃ ld, (delL D).length = ld := ⟨_, rfl⟩
      have HSA : Hid (∀ w', Ext W1 w' → Calls Tryz.prog 12 #[dgv D p] w' (SaB D ld w')) := fun w' e => by rw [← hld]; exact Start_good (d.ext (hE.trans e)) (hT.ext (hE.trans e)) hck
      have HDL : Hid (∀ w', Ext W1 w' → Calls Tryz.prog 21 #[dgv D p] w' (fun e w'' => ∃ A c, e = .returned (.slice A ld c) ∧ Ext w' w'')) := fun w' e => (rdelays_any (d.ext (hE.trans e)) (by omega)).mono fun e w'' h => by
        obtain ⟨A, c, h1, _, h2⟩ := h
        rw [hld] at h1; exact ⟨A, c, h1, h2⟩
      have HD := Lib.hid (d.ext hE); have HT := Lib.hid (hT.ext hE); have OK := Lib.hid ok; have HL := Lib.hid (l.ext hE); have HLD := Lib.hid hld; have HCK := Lib.hid hck
      rw [hld] at hdl
      have g0 : ((ld : Int) != (ld : Int)) = false := by simp
      have g1 : ((0 : Int) != (0 : Int)) = false := by simp
      have g2 : ((D.nb : Int) != (D.nb : Int)) = false := by simp
      clear d hT l hbd hlt hE hck ok hld hn
      go_enter Tryz.func5, Tryz.ntmps5
      go_upto_region 1 with fail
      rw [← hW1] at c0 c1 c2
      rw [← hW1]; clear hW1
      go_wp2_with (first
        | (go_at_call 8; (with_reducible refine (HA.out _ (by (with_reducible (repeat (first | exact Ext.refl _ | assumption | (refine Ext.toSet ?_ (by omega)) | refine Ext.toAlloc ?_ | refine Ext.toDrew ?_ | refine Ext.toDrewN ?_ | refine Ext.trans ?_ (by assumption)))); (first | done | fail "no"))).mono ?_); rintro e1 w1 ⟨rfl, h1⟩; obtain ⟨d0, d1, d2⟩ := HBX.out w1 (by (with_reducible (repeat (first | exact Ext.refl _ | assumption | (refine Ext.toSet ?_ (by omega)) | refine Ext.toAlloc ?_ | refine Ext.toDrew ?_ | refine Ext.toDrewN ?_ | refine Ext.trans ?_ (by assumption)))); (first | done | fail "no")))
        | (go_at_call 9; (with_reducible refine (HLI.out _ (by (with_reducible (repeat (first | exact Ext.refl _ | assumption | (refine Ext.toSet ?_ (by omega)) | refine Ext.toAlloc ?_ | refine Ext.toDrew ?_ | refine Ext.toDrewN ?_ | refine Ext.trans ?_ (by assumption)))); (first | done | fail "no"))).mono ?_); rintro e1 w1 ⟨rfl, h1⟩; obtain ⟨d0, d1, d2⟩ := HBX.out w1 (by (with_reducible (repeat (first | exact Ext.refl _ | assumption | (refine Ext.toSet ?_ (by omega)) | refine Ext.toAlloc ?_ | refine Ext.toDrew ?_ | refine Ext.toDrewN ?_ | refine Ext.trans ?_ (by assumption)))); (first | done | fail "no")))
        | (go_at_call 20; (with_reducible refine (HCC.out _ (by (with_reducible (repeat (first | exact Ext.refl _ | assumption | (refine Ext.toSet ?_ (by omega)) | refine Ext.toAlloc ?_ | refine Ext.toDrew ?_ | refine Ext.toDrewN ?_ | refine Ext.trans ?_ (by assumption)))); (first | done | fail "no"))).mono ?_); rintro e1 w1 ⟨rfl, h1⟩; obtain ⟨d0, d1, d2⟩ := HBX.out w1 (by (with_reducible (repeat (first | exact Ext.refl _ | assumption | (refine Ext.toSet ?_ (by omega)) | refine Ext.toAlloc ?_ | refine Ext.toDrew ?_ | refine Ext.toDrewN ?_ | refine Ext.trans ?_ (by assumption)))); (first | done | fail "no")))
        | (go_at_call 12; (with_reducible refine (HSA.out _ (by (with_reducible (repeat (first | exact Ext.refl _ | assumption | (refine Ext.toSet ?_ (by omega)) | refine Ext.toAlloc ?_ | refine Ext.toDrew ?_ | refine Ext.toDrewN ?_ | refine Ext.trans ?_ (by assumption)))); (first | done | fail "no"))).mono ?_); rintro e1 w2 ⟨gs, Rs, rfl, ls, _, h1⟩; have HLS := Lib.hid ls; clear ls; obtain ⟨d0, d1, d2⟩ := HBX.out w2 (by (with_reducible (repeat (first | exact Ext.refl _ | assumption | (refine Ext.toSet ?_ (by omega)) | refine Ext.toAlloc ?_ | refine Ext.toDrew ?_ | refine Ext.toDrewN ?_ | refine Ext.trans ?_ (by assumption)))); (first | done | fail "no")))
        | (go_at_call 21; (with_reducible refine (HDL.out _ (by (with_reducible (repeat (first | exact Ext.refl _ | assumption | (refine Ext.toSet ?_ (by omega)) | refine Ext.toAlloc ?_ | refine Ext.toDrew ?_ | refine Ext.toDrewN ?_ | refine Ext.trans ?_ (by assumption)))); (first | done | fail "no"))).mono ?_); rintro e1 w3 ⟨Ad, cd, rfl, h1⟩; obtain ⟨d0, d1, d2⟩ := HBX.out w3 (by (with_reducible (repeat (first | exact Ext.refl _ | assumption | (refine Ext.toSet ?_ (by omega)) | refine Ext.toAlloc ?_ | refine Ext.toDrew ?_ | refine Ext.toDrewN ?_ | refine Ext.trans ?_ (by assumption)))); (first | done | fail "no")))
        | (go_at_call 13; (with_reducible refine (HRC.out _ (by (with_reducible (repeat (first | exact Ext.refl _ | assumption | (refine Ext.toSet ?_ (by omega)) | refine Ext.toAlloc ?_ | refine Ext.toDrew ?_ | refine Ext.toDrewN ?_ | refine Ext.trans ?_ (by assumption)))); (first | done | fail "no"))).mono ?_); rintro e1 w4 ⟨rfl, h1⟩; obtain ⟨d0, d1, d2⟩ := HBX.out w4 (by (with_reducible (repeat (first | exact Ext.refl _ | assumption | (refine Ext.toSet ?_ (by omega)) | refine Ext.toAlloc ?_ | refine Ext.toDrew ?_ | refine Ext.toDrewN ?_ | refine Ext.trans ?_ (by assumption)))); (first | done | fail "no"))))
      have HX4 := Lib.hid (show Ext W1 w4 from (by (with_reducible (repeat (first | exact Ext.refl _ | assumption | (refine Ext.toSet ?_ (by omega)) | refine Ext.toAlloc ?_ | refine Ext.toDrew ?_ | refine Ext.toDrewN ?_ | refine Ext.trans ?_ (by assumption)))); (first | done | fail "no")))
      have HLS4 := Lib.hid (HLS.out.ext (show Ext w2 w4 from (by (with_reducible (repeat (first | exact Ext.refl _ | assumption | (refine Ext.toSet ?_ (by omega)) | refine Ext.toAlloc ?_ | refine Ext.toDrew ?_ | refine Ext.toDrewN ?_ | refine Ext.trans ?_ (by assumption)))); (first | done | fail "no"))))
      have HIF : Hid (∃ IF : Nat → Nat → Int, ∀ t, IF t = fitV D (m t) (IN t)) := ⟨_, fun _ => rfl⟩
      obtain ⟨IF, hIF⟩ := HIF.out
      have HIF := Lib.hid hIF; clear hIF
      clear d0 d1 d2 c0 c1 c2 HLS
      go_loopw [5, 58] (fun st s wr => ∃ (t gs : Nat) (Rs : Nat → RN), t ≤ n ∧ s = I t ∧ st = .slice (some ⟨gs, 0, none⟩) ld ld ∧ Hid (LvM wr gs ld Rs (sqS D IF t) ∧ Ext w4 wr)) (fun _ s _ => n - (intOf s).toNat)
      case atStart => exact ⟨0, gs, Rs, Nat.zero_le _, rfl, rfl, HLS4.out, Ext.refl _⟩
      case round =>
        clear HLS4
        obtain ⟨t, gs, Rs, ht, rfl, rfl, H⟩ := hrel
        by_cases hlt : t < n
        · have hX := HX4.out.trans H.out.2
          obtain ⟨b, o, hbl, hbb, hc⟩ := (HL.out.ext hX).cells (by omega)
          have xl := hc t hlt
          obtain ⟨c0, c1, c2⟩ := HBX.out _ hX
          have hlt' : (t : Int) < (n : Int) := by omega
          obtain ⟨IV, hIV⟩ : ∃ IV, IF t = IV := ⟨_, rfl⟩
          obtain ⟨SS, hSS⟩ : ∃ SS, sqS D IF t = SS := ⟨_, rfl⟩
          have hIVf : fitV D (m t) (IN t) = IV := by rw [← HIF.out, hIV]
          have hNX : sqS D IF (t + 1) = nxS D (tkV D SS IV) := by rw [← hSS, ← hIV]; rfl
          have HNX := Lib.hid hNX
          have hrg : ∀ j, j < D.ni → (D.P j).lo ≤ IV j ∧ IV j ≤ (D.P j).hi := fun j hj => by rw [← hIVf]; exact fit_rng OK.out _ _ j hj
          have HRG := Lib.hid hrg
          have HFI : Hid (∀ w', Ext wr w' → Calls Tryz.prog 22 #[dgv D p, .slice (AA t) (m t) (c t)] w' (fun e w'' => ∃ A c, e = .returned (.slice A D.ni c) ∧ Ri w'' A D.ni IV ∧ Ext w' w'')) := fun w' e => (fit_any (HD.out.ext (hX.trans e)) (by omega) (fun j hj => by have := OK.out.port hj; omega) ((HL.out.rows t hlt).1.ext (hX.trans e)) (HL.out.rows t hlt).2).mono fun e w'' h => by
            obtain ⟨A, c, h1, h2, h3⟩ := h
            rw [hIVf] at h2; exact ⟨A, c, h1, h2.ri, h3⟩
          have hls := H.out.1
          rw [hSS] at hls
          have HS := Lib.hid hls
          have HX := Lib.hid hX
          have HWX := Lib.hid H.out.2
          have hch : chE D ld (fun _ => true) D.ni IV = 0 := by
            unfold chE
            rw [if_neg (by have := HLD.out; omega), if_neg (by rw [allN_true]; decide), if_neg (by omega), if_neg]
            rw [show inR D IV = true from allN_iff.2 fun k hk => by simp; exact hrg k hk]; decide
          clear hc hX hls H hIVf hNX hrg hIV hSS
          by_cases hst : stE D ld (fun _ => true) SS D.ni IV = 0
          · have HST : Hid (∀ w' A c, Ext wr w' → Ri w' A D.ni IV → Calls Tryz.prog 11 #[dgv D p, .slice (some ⟨gs, 0, none⟩) ld ld, .slice A D.ni c] w' (StB D ld SS IV w')) := fun w' A c e r => Step_good (HD.out.ext (HX.out.trans e)) (HT.out.ext (HX.out.trans e)) HCK.out (HS.out.ext e).ln.rn (fun k hk => El.of ((HS.out.ext e).el k hk)) r (by unfold maxLen; omega) hst
            have hsh := (stE_good hst).2.2.2.2
            have HSH := Lib.hid hsh
            clear hch hst hsh
            go_upto_region 12 with (first
              | (go_at_call 22; (with_reducible refine (HFI.out _ (Ext.refl _)).mono ?_); rintro e1 w5 ⟨Ai, ci, rfl, ri, h5⟩; have HRI := Lib.hid ri; have HX5 := Lib.hid h5; obtain ⟨d0, d1, d2⟩ := HBX.out _ (HX.out.trans h5); clear ri h5)
              | (go_at_call 11; (with_reducible refine (HST.out _ _ _ HX5.out HRI.out).mono ?_); rintro e1 w6 ⟨g2, R2, g3, R3, rfl, l2, l3, n2, n3, h6⟩; have HN := Lib.hid l2; have HV := Lib.hid l3; have HX6 := Lib.hid (HX5.out.trans h6); have HRI6 := Lib.hid (HRI.out.ext h6); obtain ⟨d0, d1, d2⟩ := HBX.out _ (HX.out.trans HX6.out); clear l2 l3 n2 n3 h6))
            have HSo := Lib.hid (HS.out.ext HX6.out)
            have HXo := Lib.hid (HX.out.trans HX6.out)
            have HW6 := Lib.hid (HWX.out.trans HX6.out)
            clear HS HX HWX HX6 HX5 HRI HST HFI
            go_wp2_with fail
            (try rw [← hbl])
            clear hbl xl d0 d1 d2 c0 c1 c2
            obtain ⟨wo, hwo⟩ : ∃ wo, wo = w6 := ⟨_, rfl⟩
            subst hwo
            go_loopw [14, 93] (fun s14 s wy => ∃ i : Nat, i ≤ D.nb ∧ s = I i ∧ s14 = I (plc D i) ∧ Hid (Ext wo wy)) (fun _ s _ => D.nb - (intOf s).toNat)
            case atStart => exact ⟨0, Nat.zero_le _, rfl, rfl, Ext.refl _⟩
            case round =>
              obtain ⟨i, hi, rfl, rfl, HY⟩ := hrel
              by_cases hli : i < D.nb
              · have dd := HD.out.ext (HXo.out.trans HY.out)
                obtain ⟨b1, o1, hb1, hbl1, hc1⟩ := dd.blocks (by omega)
                obtain ⟨x0, x1, x2, x3, x4, x5⟩ := hc1 i hli
                obtain ⟨c0, c1, c2⟩ := HBX.out _ (HXo.out.trans HY.out)
                have hil : (i : Int) < (D.nb : Int) := by omega
                obtain ⟨W2, hW2⟩ : ∃ W2, W2 = (wr.alloc (.cells #[I (D.B i).k, .slice (p.AA i) (D.B i).n (p.cA i), I (D.B i).vn, I (D.B i).ve, I (D.B i).un, I (D.B i).ue] 58)).alloc (.cells #[.bool false, .slice none 0 0, I 0] 61) := ⟨_, rfl⟩
                have hE2 : Ext wr W2 := by rw [hW2]; exact (Ext.alloc _ _).trans (Ext.alloc _ _)
                have HBB : Hid (∀ w', Ext W2 w' → w'.cell? ⟨wr.heap.size, 0, none⟩ = some (I (D.B i).k) ∧ w'.cell? ⟨wr.heap.size, 1, none⟩ = some (.slice (p.AA i) (D.B i).n (p.cA i)) ∧ w'.cell? ⟨wr.heap.size, 2, none⟩ = some (I (D.B i).vn) ∧ w'.cell? ⟨wr.heap.size, 3, none⟩ = some (I (D.B i).ve) ∧ w'.cell? ⟨wr.heap.size, 4, none⟩ = some (I (D.B i).un) ∧ w'.cell? ⟨wr.heap.size, 5, none⟩ = some (I (D.B i).ue)) := fun w' e => by
                  rw [hW2] at e
                  obtain ⟨z0, z1, z2, z3, z4, z5, _, _⟩ := bq6 ((Ext.alloc _ _).trans e)
                  exact ⟨z0, z1, z2, z3, z4, z5⟩
                have HWB : Hid (∀ w', Ext W2 w' → Bx w' (wr.heap.size + 1) (.bool false) (.slice none 0 0) (I 0)) := fun w' e => by
                  rw [hW2] at e
                  have := (Bx.new (wr.alloc (.cells #[I (D.B i).k, .slice (p.AA i) (D.B i).n (p.cA i), I (D.B i).vn, I (D.B i).ve, I (D.B i).un, I (D.B i).ue] 58)) (.bool false) (.slice none 0 0) (I 0) 61).ext e
                  simpa using this
                have HE2 := Lib.hid hE2
                have HY2 := Lib.hid (HY.out.trans hE2)
                have hzz : W2.heap.size = wr.heap.size + 1 + 1 := by rw [hW2]; simp
                have hyz := HY.out.size
                have hg3 : g3 < wo.heap.size := HV.out.row.lt
                have hg2 : g2 < wo.heap.size := HN.out.row.lt
                have hgs : gs < wo.heap.size := HSo.out.row.lt
                clear hc1 dd
                by_cases hk0 : (D.B i).k = 0
                · have g4 : ((D.B i).k == 0) = true := by simpa using hk0
                  have hnd : isD D i = false := by unfold isD; rw [hk0]; rfl
                  obtain ⟨hq, hn1, ha0⟩ := OK.out.inp hli hk0
                  have htk := tk_eq OK.out SS IV hli hnd
                  have hval : tkV D SS IV i = prtV (D.P (sr D i 0)) (IV (sr D i 0)) := by rw [htk]; unfold bval; rw [if_pos hk0]
                  obtain ⟨y, hy⟩ : ∃ y, sr D i 0 = y := ⟨_, rfl⟩
                  rw [hy] at hq ha0 hval
                  have hpo := OK.out.port hq
                  have hin := HRG.out y hq
                  have HPO : Hid (∀ w', Calls Tryz.prog 24 #[.agg #[I (D.P y).lo, I (D.P y).hi, I (D.P y).fr], I (IV y)] w' (DyRes (tkV D SS IV i) w')) := fun w' => by
                    rw [hval]; exact rport_any (D.P y) (IV y) w' (by omega) (by omega) hpo.1 hpo.2.1
                  have HCN := Lib.hid (And.intro (HV.out.el i hli).ok (HV.out.el i hli).lim)
                  obtain ⟨ba, oa, hba, hbla, hca⟩ := (HD.out.args i hli).1 (by omega)
                  have a0 := hca 0 (by omega)
                  rw [ha0, Nat.add_zero] at a0
                  obtain ⟨bp, op, hbp, hblp, hcp⟩ := HD.out.ports (by omega)
                  obtain ⟨p0, p1, p2⟩ := hcp y hq
                  obtain ⟨bi, oi, rfl, hbli, hci⟩ := HRI6.out (by omega)
                  have i0 := hci y hq
                  have hw1 := HXo.out.size
                  have hl0 : w.heap.size < wo.heap.size := Nat.lt_of_lt_of_le (World.block_lt_of_cell? W1 _ (HBX.out _ (Ext.refl _)).1) HXo.out.size
                  have HNE : Hid (w.heap.size ≠ wr.heap.size + 1 ∧ wr.heap.size ≠ wr.heap.size + 1 ∧ ba ≠ wr.heap.size + 1 ∧ bp ≠ wr.heap.size + 1 ∧ bi ≠ wr.heap.size + 1) := ⟨by omega, by omega, by omega, by omega, by omega⟩
                  have HSS : Hid (∀ w', Ext W2 w' → (w'.cell? ⟨w.heap.size, 0, none⟩ = some (.slice (some ⟨bp, op, none⟩) D.ni p.cI) ∧ w'.cell? ⟨wr.heap.size, 1, none⟩ = some (.slice (some ⟨ba, oa, none⟩) 1 (p.cA i)) ∧ w'.cell? ⟨ba, oa, none⟩ = some (I y)) ∧
                      (w'.cell? ⟨bp, op + y * 3, none⟩ = some (I (D.P y).lo) ∧ w'.cell? ⟨bp, op + y * 3 + 1, none⟩ = some (I (D.P y).hi) ∧ w'.cell? ⟨bp, op + y * 3 + 2, none⟩ = some (I (D.P y).fr)) ∧ w'.cell? ⟨bi, oi + y, none⟩ = some (I (IV y))) := fun w' e => by
                    have e6 := HY2.out.trans e
                    have e' := HXo.out.trans e6
                    have z1 := (HBB.out w' e).2.1
                    rw [hn1, hba] at z1
                    have c0' := (HBX.out _ e').1
                    rw [hbp] at c0'
                    exact ⟨⟨c0', z1, (e'.old.1 _ _ hbla).trans a0⟩, ⟨(e'.old.1 _ _ hblp).trans p0, (e'.old.1 _ _ hblp).trans p1, (e'.old.1 _ _ hblp).trans p2⟩, (e6.old.1 _ _ hbli).trans i0⟩
                  have hyl : (y : Int) < (D.ni : Int) := by omega
                  have HPL : Hid (plc D (i + 1) = plc D i) := by show _ = _; rw [plc_succ, if_neg (by rw [hnd]; decide)]; rfl
                  clear hca hcp hci hpo hin hval htk ha0 hba hn1 hbp hk0 hnd hw1 hl0
                  generalize (D.P y).lo = plo at *
                  generalize (D.P y).hi = phi at *
                  generalize (D.P y).fr = pfr at *
                  generalize IV y = iy at *
                  go_upto_region 30 with fail
                  rw [← hW2]; clear hW2
                  clear c0 c1 c2 x0 x1 x2 x3 x4 x5 a0 p0 p1 p2 i0
                  obtain ⟨⟨s0, s1, s2⟩, ⟨s3, s4, s5⟩, s6⟩ := HSS.out W2 (Ext.refl _)
                  go_region_held3 (fun w' => (w'.cell? ⟨w.heap.size, 0, none⟩ = some (.slice (some ⟨bp, op, none⟩) D.ni p.cI) ∧ w'.cell? ⟨wr.heap.size, 1, none⟩ = some (.slice (some ⟨ba, oa, none⟩) 1 (p.cA i)) ∧ w'.cell? ⟨ba, oa, none⟩ = some (I y)) ∧
                      (w'.cell? ⟨bp, op + y * 3, none⟩ = some (I plo) ∧ w'.cell? ⟨bp, op + y * 3 + 1, none⟩ = some (I phi) ∧ w'.cell? ⟨bp, op + y * 3 + 2, none⟩ = some (I pfr)) ∧ w'.cell? ⟨bi, oi + y, none⟩ = some (I iy))
                    (first | exact HSS.out _ (by (with_reducible (repeat (first | exact Ext.refl _ | assumption | (refine Ext.toSet ?_ (by omega)) | refine Ext.toAlloc ?_ | refine Ext.toDrew ?_ | refine Ext.toDrewN ?_ | refine Ext.trans ?_ (by assumption)))); (first | done | fail "no")) | (refine ⟨⟨?_, ?_, ?_⟩, ⟨?_, ?_, ?_⟩, ?_⟩ <;> (rw [cell_farg (by first | exact HNE.out.1 | exact HNE.out.2.1 | exact HNE.out.2.2.1 | exact HNE.out.2.2.2.1 | exact HNE.out.2.2.2.2)]; assumption)))
                    (first | (go_at_call 24; (with_reducible refine (HPO.out _).mono ?_); rintro e1 w7 hr; obtain ⟨A1, z1, rfl, cn1, hA1, hx1⟩ := hr.cn HCN.out.1 HCN.out.2; have HX7 := Lib.hid (show Ext W2 w7 from (by (with_reducible (repeat (first | exact Ext.refl _ | assumption | (refine Ext.toSet ?_ (by omega)) | refine Ext.toAlloc ?_ | refine Ext.toDrew ?_ | refine Ext.toDrewN ?_ | refine Ext.trans ?_ (by assumption)))); (first | done | fail "no"))); have hw7 := HX7.out.size; have hbx := HWB.out _ HX7.out; obtain ⟨⟨t0, t1, t2⟩, ⟨t3, t4, t5⟩, t6⟩ := HSS.out _ HX7.out; have HZ := Lib.hid (WtM.of (HY2.out.trans HX7.out) (by omega) hbx cn1 (fun _ a ha => by have h1 := hA1 a ha; have h2 := hx1.size; (first | omega | (simp at h1; omega)))); obtain ⟨⟨d0, d1, d2⟩, rf⟩ := hbx; have f0 := rf 0; have f1 := rf 1; have f2 := rf 2; clear hr rf cn1 hA1))
                  all_goals
                    go_upto_region 36 with fail
                    obtain ⟨wz, hwz⟩ : ∃ wz, wz = ((w7.setCell ⟨wr.heap.size + 1, 0, none⟩ (.bool (cnR (tkV D SS IV i) A1 z1).neg)).setCell ⟨wr.heap.size + 1, 1, none⟩ (.slice (cnR (tkV D SS IV i) A1 z1).A (cnR (tkV D SS IV i) A1 z1).n (cnR (tkV D SS IV i) A1 z1).c)).setCell ⟨wr.heap.size + 1, 2, none⟩ (I (cnR (tkV D SS IV i) A1 z1).den) := ⟨_, rfl⟩
                    have HZ2 : Hid (WtM wo wz (wr.heap.size + 1) (cnR (tkV D SS IV i) A1 z1) (tkV D SS IV i)) := by show WtM _ _ _ _ _; rw [hwz]; exact HZ.out
                    rw [← hwz]
                    clear hwz HZ
                    have hz0 := HZ2.out.c0; have hz1 := HZ2.out.c1; have hz2 := HZ2.out.c2; have hzl := HZ2.out.lt
                    obtain ⟨v0, v1, v2⟩ := (HV.out.ext HZ2.out.ext).cells hli
                    have hv3l := (HV.out.ext HZ2.out.ext).row.lt
                    have HSM : Hid (∀ w', Ext wz w' → Calls Tryz.prog 25 #[(R3 i).v, ((cnR (tkV D SS IV i) A1 z1)).v] w' (fun e w'' => e = .returned (.bool true) ∧ Ext w' w'')) := fun w' e => rsame_cn ((HV.out.el i hli).ext (HZ2.out.ext.trans e)) (HZ2.out.cn.ext e)
                    have hb : Ext wz wz := Ext.refl _
                    generalize hri : R3 i = ri at *
                    generalize hrr : (cnR (tkV D SS IV i) A1 z1) = rr at *
                    clear hri hrr
                    have hL := fun (x : Later _) => (Ext.trans hb x.ext).old.1
                    refine wp_region_later (by kernel_rfl) (by kernel_rfl) ?_
                    repeat (go_big_quiet_step (((go_at_call 25; exact Calls.later (HSM.out _ (Later.ext _))))))
                    refine wpQuiet_nil ?_
                    intro w2 hw2
                    replace hb := Ext.trans hb (Later.of hw2)
                    clear hw2 hL
                    obtain ⟨hc, hf⟩ := hb.old
                    have HB2 := Lib.hid (HZ2.out.ext.trans hb)
                    clear hb
                    go_wp2_with fail
                    (try rw [← hb1])
                    go_roundw
                    case rel => exact ⟨i + 1, by omega, by go_num, by rw [HPL.out], HB2.out⟩
                    case measure => simp [intOf]; omega
                · by_cases hk2 : (D.B i).k = 2
                  · have g4 : ((D.B i).k == 0) = false := by rw [hk2]; rfl
                    have g5 : ((D.B i).k == 2) = true := by simpa using hk2
                    have hd : isD D i = true := by unfold isD; rw [hk2]; rfl
                    have hn1 : (D.B i).n = 1 := by
                      have har := OK.out.ar i hli
                      have : arity (D.B i).k = 1 := by rw [hk2]; decide
                      omega
                    have hns : ns D i = 1 := by unfold ns; rw [if_neg (by omega), hn1]
                    have hsr := OK.out.toWF.src hli (j := 0) (by omega)
                    obtain ⟨y, hy⟩ : ∃ y, sr D i 0 = y := ⟨_, rfl⟩
                    rw [hy] at hsr
                    have hyn := hsr.2.1
                    have hpl := plc_lt hli hd
                    rw [HLD.out] at hpl
                    have hkv : tkV D SS IV i = SS (plc D i) := tk_del SS IV hd
                    have hnv : nxS D (tkV D SS IV) (plc D i) = tkV D SS IV y := by unfold nxS; rw [hpl.2, hy]
                    have HPL : Hid (plc D (i + 1) = plc D i + 1) := by show _ = _; rw [plc_succ, if_pos hd]
                    have hpi := hpl.1
                    obtain ⟨kk, hkk⟩ : ∃ kk, plc D i = kk := ⟨_, rfl⟩
                    rw [hkk] at hkv hnv HPL hpi ⊢
                    have cns := HSo.out.el kk hpi
                    rw [← hkv] at cns
                    have cnn := HN.out.el kk hpi
                    rw [hnv] at cnn
                    have HCN := Lib.hid cnn
                    obtain ⟨ba, oa, hba, hbla, hca⟩ := (HD.out.args i hli).1 (by omega)
                    have a0 := hca 0 (by omega)
                    rw [hsr.1, Nat.add_zero] at a0
                    have hw1 := HXo.out.size
                    have HZ := Lib.hid (WtM.of HY2.out (by omega) (HWB.out _ (Ext.refl _)) (cns.ext HY2.out) (fun hl a ha => by have := cns.blk hl a ha; omega))
                    have hbc : (((W2.setCell ⟨wr.heap.size + 1, 0, none⟩ (.bool (Rs kk).neg)).setCell ⟨wr.heap.size + 1, 1, none⟩ (.slice (Rs kk).A (Rs kk).n (Rs kk).c)).setCell ⟨wr.heap.size + 1, 2, none⟩ (I (Rs kk).den)).cell? ⟨wr.heap.size, 1, none⟩ = some (.slice (some ⟨ba, oa, none⟩) 1 (p.cA i)) := by
                      rw [cell_farg (by omega), (HBB.out _ (Ext.refl _)).2.1, hn1, hba]
                    obtain ⟨s0, s1, s2⟩ := (HSo.out.ext HY2.out).cells hpi
                    have hkl : (kk : Int) < (ld : Int) := by omega
                    have hyl : (y : Int) < (D.nb : Int) := by omega
                    have hwrap : IntKind.i64.wrap ((kk : Int) + 1) = ((kk : Int) + 1) := IntWalk.i64_in _ (by omega)
                    obtain ⟨⟨q0, q1, q2⟩, rf⟩ := HWB.out _ (Ext.refl _)
                    have f0 := rf 0; have f1 := rf 1; have f2 := rf 2
                    have hgw : wr.heap.size + 1 < W2.heap.size := by omega
                    have hs2 : gs < W2.heap.size := by omega
                    have HBA := Lib.hid (And.intro hba hn1)
                    clear hsr hns hd hkv hnv hpl hca cns cnn rf hba hn1 hk2 hk0
                    go_upto_region 31 with fail
                    rw [← hW2]; clear hW2
                    clear c0 c1 c2 x0 x1 x2 x3 x4 x5
                    go_upto_region 33 with fail
                    (try rw [← hb1])
                    clear hb1 q0 q1 q2 f0 f1 f2 s0 s1 s2
                    obtain ⟨wz, hwz⟩ : ∃ wz, wz = ((W2.setCell ⟨wr.heap.size + 1, 0, none⟩ (.bool (Rs kk).neg)).setCell ⟨wr.heap.size + 1, 1, none⟩ (.slice (Rs kk).A (Rs kk).n (Rs kk).c)).setCell ⟨wr.heap.size + 1, 2, none⟩ (I (Rs kk).den) := ⟨_, rfl⟩
                    have HZ2 : Hid (WtM wo wz (wr.heap.size + 1) (Rs kk) (tkV D SS IV i)) := by show WtM _ _ _ _ _; rw [hwz]; exact HZ.out
                    rw [← hwz] at hbc
                    rw [← hwz]
                    clear hwz HZ
                    obtain ⟨n0, n1, n2⟩ := (HN.out.ext HZ2.out.ext).cells hpi
                    obtain ⟨u0, u1, u2⟩ := (HV.out.ext HZ2.out.ext).cells hyn
                    have hn2l := (HN.out.ext HZ2.out.ext).row.lt
                    have hv3l := (HV.out.ext HZ2.out.ext).row.lt
                    have hbx1 : wr.heap.size < wz.heap.size := by have := HZ2.out.lt; omega
                    have hbal : ba < wz.heap.size := Nat.lt_of_lt_of_le hbla (HXo.out.trans HZ2.out.ext).size
                    have a1 := ((HXo.out.trans HZ2.out.ext).old.1 _ _ hbla).trans a0
                    have HSM1 : Hid (∀ w', Ext wz w' → Calls Tryz.prog 25 #[(R2 kk).v, (R3 y).v] w' (fun e w'' => e = .returned (.bool true) ∧ Ext w' w'')) := fun w' e => rsame_cn (HCN.out.ext (HZ2.out.ext.trans e)) ((HV.out.el y hyn).ext (HZ2.out.ext.trans e))
                    have HVI := Lib.hid (HV.out.el i hli)
                    have HVC : Hid (∀ w', Ext wo w' → w'.cell? ⟨g3, i * 3, none⟩ = some (.bool (R3 i).neg) ∧ w'.cell? ⟨g3, i * 3 + 1, none⟩ = some (.slice (R3 i).A (R3 i).n (R3 i).c) ∧ w'.cell? ⟨g3, i * 3 + 2, none⟩ = some (I (R3 i).den)) := fun w' e => (HV.out.ext e).cells hli
                    have hb : Ext wz wz := Ext.refl _
                    generalize R2 kk = r2 at *
                    generalize hr3 : R3 y = r3 at *
                    clear hr3 a0
                    have hL := fun (x : Later _) => (Ext.trans hb x.ext).old.1
                    refine wp_region_later (by kernel_rfl) (by kernel_rfl) ?_
                    repeat (go_big_quiet_step (((go_at_call 25; exact Calls.later (HSM1.out _ (Later.ext _))))))
                    refine wpQuiet_nil ?_
                    intro w2 hw2
                    replace hb := Ext.trans hb (Later.of hw2)
                    clear hw2 hL
                    obtain ⟨hc, hf⟩ := hb.old
                    have HZ3 := Lib.hid (HZ2.out.to hb)
                    clear hb hc hf n0 n1 n2 u0 u1 u2 hbc a1 hbx1 hbal hn2l hv3l
                    go_upto_region 36 with fail
                    have hz0 := HZ3.out.c0; have hz1 := HZ3.out.c1; have hz2 := HZ3.out.c2; have hzl := HZ3.out.lt
                    have hv3l := (HV.out.ext HZ3.out.ext).row.lt
                    obtain ⟨v0, v1, v2⟩ := HVC.out _ HZ3.out.ext
                    have HSM : Hid (∀ w', Ext w2 w' → Calls Tryz.prog 25 #[(R3 i).v, (Rs kk).v] w' (fun e w'' => e = .returned (.bool true) ∧ Ext w' w'')) := fun w' e => rsame_cn (HVI.out.ext (HZ3.out.ext.trans e)) (HZ3.out.cn.ext e)
                    have hb : Ext w2 w2 := Ext.refl _
                    generalize hri : R3 i = ri at *
                    generalize hrr : Rs kk = rr at *
                    clear hri hrr
                    have hL := fun (x : Later _) => (Ext.trans hb x.ext).old.1
                    refine wp_region_later (by kernel_rfl) (by kernel_rfl) ?_
                    repeat (go_big_quiet_step (((go_at_call 25; exact Calls.later (HSM.out _ (Later.ext _))))))
                    refine wpQuiet_nil ?_
                    intro w2 hw2
                    replace hb := Ext.trans hb (Later.of hw2)
                    clear hw2 hL
                    obtain ⟨hc, hf⟩ := hb.old
                    have HB2 := Lib.hid (HZ3.out.ext.trans hb)
                    clear hb
                    go_wp2_with fail
                    go_roundw
                    case rel => exact ⟨i + 1, by omega, by go_num, by rw [HPL.out]; go_num, HB2.out⟩
                    case measure => simp [intOf]; omega
                  · have g4 : ((D.B i).k == 0) = false := by simpa using hk0
                    have g5 : ((D.B i).k == 2) = false := by simpa using hk2
                    have hnd : isD D i = false := by unfold isD; simpa using hk2
                    have hns : ns D i = (D.B i).n := by unfold ns; rw [if_neg hk0]
                    have hn2 := (OK.out.toWF.ns2 hli).2
                    have har := OK.out.ar i hli
                    have htk := tk_eq OK.out SS IV hli hnd
                    obtain ⟨F, hF⟩ : ∃ F : Nat → DV, F = fun j => tkV D SS IV (sr D i j) := ⟨_, rfl⟩
                    have HF : Hid (∀ j, F j = tkV D SS IV (sr D i j)) := fun j => by rw [hF]
                    have hsh : ∀ j, j < (D.B i).n → Shr (F j) := fun j hj => by
                      have hs := OK.out.toWF.src hli (j := j) (by omega)
                      rw [HF.out]
                      exact Shr.of (HSH.out _ hs.2.1) (HV.out.el _ hs.2.1).ok
                    have hfv : fv (D.B i) (upto F (D.B i).n 0) (upto F (D.B i).n 1) = tkV D SS IV i := by
                      rw [htk]; unfold bval; rw [if_neg hk0]
                      exact fv_congr (fun q => by rw [upto_end (by omega), HF.out]) (fun q => by rw [upto_end (by omega), HF.out])
                    have HBK : Hid (∀ w' A c R5, Ext W2 w' → Ln w' A (D.B i).n R5 (upto F (D.B i).n) → Calls Tryz.prog 26 #[bkv (D.B i).k (p.AA i) (D.B i).n (p.cA i) (D.B i).vn (D.B i).ve (D.B i).un (D.B i).ue, .slice A (D.B i).n c] w' (DyRes (tkV D SS IV i) w')) := fun w' A c R5 e l => by
                      rw [← hfv]
                      exact rblock_val OK.out hli hk0 hk2 l (Nat.le_refl _) (fun j hj => by rw [upto_end hj]; exact hsh j hj)
                    have HSR : Hid (∀ j, j < (D.B i).n → (D.B i).a j = (sr D i j : Nat) ∧ sr D i j < D.nb) := fun j hj => by
                      have hs := OK.out.toWF.src hli (j := j) (by omega)
                      exact ⟨hs.1, hs.2.1⟩
                    have HPL : Hid (plc D (i + 1) = plc D i) := by show _ = _; rw [plc_succ, if_neg (by rw [hnd]; decide)]; rfl
                    have HCN := Lib.hid (And.intro (HV.out.el i hli).ok (HV.out.el i hli).lim)
                    obtain ⟨z0, z1, z2, z3, z4, z5⟩ := HBB.out W2 (Ext.refl _)
                    clear htk hF hns har hk0 hk2 hnd hsh hfv
                    go_upto_region 22 with fail
                    rw [← hW2]; clear hW2
                    clear c0 c1 c2 x0 x1 x2 x3 x4 x5
                    go_wp2_with fail
                    clear z0 z1 z2 z3 z4 z5
                    (try rw [← hb1])
                    clear hb1
                    obtain ⟨wi, hwi⟩ : ∃ wi, wi = wr := ⟨_, rfl⟩
                    subst hwi
                    have HN0 : Hid (NwM W2 W2 W2.heap.size none 0 (fun _ => RN.z) (upto F 0) 0) := NwM.nil (Ext.refl _) (Nat.le_refl _) (Nat.le_refl _) _ _
                    go_loopw [18, 103] (fun s18 s wy => ∃ (q : Nat) (A : Option Addr) (c : Nat) (R5 : Nat → RN), q ≤ (D.B i).n ∧ s = I q ∧ s18 = .slice A q c ∧ Hid (NwM W2 wy W2.heap.size A c R5 (upto F q) q)) (fun _ s _ => (D.B i).n - (intOf s).toNat)
                    case atStart => exact ⟨0, none, 0, _, Nat.zero_le _, rfl, rfl, HN0.out⟩
                    case round =>
                      clear HN0
                      obtain ⟨q5, A5, c5, R5, hq5, rfl, rfl, HW⟩ := hrel
                      have HOX := Lib.hid (HY2.out.trans HW.out.ext)
                      by_cases hlt5 : q5 < (D.B i).n
                      · obtain ⟨ba, oa, hba, hbla, hca⟩ := ((HD.out.ext (HXo.out.trans HOX.out)).args i hli).1 (by omega)
                        have a0 := hca q5 hlt5
                        have hsr := HSR.out q5 hlt5
                        rw [hsr.1] at a0
                        obtain ⟨y, hy⟩ : ∃ y, sr D i q5 = y := ⟨_, rfl⟩
                        rw [hy] at a0 hsr
                        have hyn := hsr.2
                        have HFY : Hid (tkV D SS IV y = F q5) := by show _ = _; rw [HF.out, hy]
                        have hcy := HV.out.el y hyn
                        rw [HFY.out] at hcy
                        have HCY := Lib.hid hcy
                        have HBR : Hid (0 < len (F q5).m → ∀ a, (R3 y).A = some a → a.block < wo.heap.size) := hcy.blk
                        have HUP5 : Hid (∀ i, putD (upto F q5) q5 (F q5) i = upto F (q5 + 1) i) := upto_put F q5
                        obtain ⟨d0, d1, d2⟩ := (HV.out.ext HOX.out).cells hyn
                        have hlt' : (q5 : Int) < ((D.B i).n : Int) := by omega
                        have hyl : (y : Int) < (D.nb : Int) := by omega
                        have hblt := HW.out.blt
                        have hw2 := HY2.out.size
                        clear hca hsr hcy hy
                        generalize R3 y = ry at *
                        go_wp2_with (at_builtin; refine appN rfl _ _ rfl W2.heap.size A5 c5 (putR R5 q5 ry) q5 rfl (HW.out.own' (Ext.alloc _ _) _) _ _ rfl (news3 rfl R5 q5) (by omega) (by simp; omega) ?_; intro g5 cap w8 hown hgrow hat hltg; have HNW := Lib.hid (HW.out.step (Ext.alloc _ _) ry (F q5) (HCY.out.ext (HOX.out.trans (Ext.alloc _ _))) (fun hl a ha q => by have h1 := HBR.out hl a ha; have h2 := (HW.out.own.lt a.block q.symm).1; omega) hown hgrow hat); clear hown hgrow hat hltg)
                        (try rw [← hba])
                        go_roundw
                        case rel => exact ⟨q5 + 1, _, _, _, by omega, by go_num, rfl, HNW.out.congr (fun i _ => HUP5.out i)⟩
                        case measure => simp [intOf]; omega
                      · obtain hq6 : q5 = (D.B i).n := by omega
                        have hW := HW.out.ext
                        obtain ⟨z0, z1, z2, z3, z4, z5⟩ := HBB.out _ hW
                        have HL5 : Hid (Ln wr A5 (D.B i).n R5 (upto F (D.B i).n)) := by show Ln _ _ _ _ _; rw [← hq6]; exact HW.out.ln
                        have HBL : Hid (∀ w', Ext wr w' → Calls Tryz.prog 26 #[bkv (D.B i).k (p.AA i) (D.B i).n (p.cA i) (D.B i).vn (D.B i).ve (D.B i).un (D.B i).ue, .slice A5 q5 c5] w' (DyRes (tkV D SS IV i) w')) := fun w' e => by
                          rw [hq6]; exact HBK.out _ _ _ _ (hW.trans e) (HL5.out.ext e)
                        have hltf : ¬ (q5 : Int) < ((D.B i).n : Int) := by omega
                        have HW' := Lib.hid hW
                        have hw8 := hW.size
                        clear hq6 hW
                        go_upto_region 36 with (go_at_call 26; (with_reducible refine (HBL.out _ (Ext.refl _)).mono ?_); rintro e1 w7 hr; obtain ⟨A1, y1, rfl, cn1, hA1, hx1⟩ := hr.cn HCN.out.1 HCN.out.2; have HX7 := Lib.hid (HW'.out.trans hx1); have hbx := HWB.out _ HX7.out; have HZ := Lib.hid (WtM.of (HY2.out.trans HX7.out) (by omega) hbx cn1 (fun _ a ha => by have h1 := hA1 a ha; omega)); obtain ⟨⟨d0, d1, d2⟩, rf⟩ := hbx; have f0 := rf 0; have f1 := rf 1; have f2 := rf 2; clear hr rf cn1 hA1)
                        obtain ⟨wz, hwz⟩ : ∃ wz, wz = ((w7.setCell ⟨wi.heap.size + 1, 0, none⟩ (.bool (cnR (tkV D SS IV i) A1 y1).neg)).setCell ⟨wi.heap.size + 1, 1, none⟩ (.slice (cnR (tkV D SS IV i) A1 y1).A (cnR (tkV D SS IV i) A1 y1).n (cnR (tkV D SS IV i) A1 y1).c)).setCell ⟨wi.heap.size + 1, 2, none⟩ (I (cnR (tkV D SS IV i) A1 y1).den) := ⟨_, rfl⟩
                        have HZ2 : Hid (WtM wo wz (wi.heap.size + 1) (cnR (tkV D SS IV i) A1 y1) (tkV D SS IV i)) := by show WtM _ _ _ _ _; rw [hwz]; exact HZ.out
                        rw [← hwz]
                        clear hwz HZ
                        have hz0 := HZ2.out.c0; have hz1 := HZ2.out.c1; have hz2 := HZ2.out.c2; have hzl := HZ2.out.lt
                        obtain ⟨v0, v1, v2⟩ := (HV.out.ext HZ2.out.ext).cells hli
                        have hv3l := (HV.out.ext HZ2.out.ext).row.lt
                        have HSM : Hid (∀ w', Ext wz w' → Calls Tryz.prog 25 #[(R3 i).v, ((cnR (tkV D SS IV i) A1 y1)).v] w' (fun e w'' => e = .returned (.bool true) ∧ Ext w' w'')) := fun w' e => rsame_cn ((HV.out.el i hli).ext (HZ2.out.ext.trans e)) (HZ2.out.cn.ext e)
                        have hb : Ext wz wz := Ext.refl _
                        generalize hri : R3 i = ri at *
                        generalize hrr : (cnR (tkV D SS IV i) A1 y1) = rr at *
                        clear hri hrr
                        have hL := fun (x : Later _) => (Ext.trans hb x.ext).old.1
                        refine wp_region_later (by kernel_rfl) (by kernel_rfl) ?_
                        repeat (go_big_quiet_step (((go_at_call 25; exact Calls.later (HSM.out _ (Later.ext _))))))
                        refine wpQuiet_nil ?_
                        intro w2 hw2
                        replace hb := Ext.trans hb (Later.of hw2)
                        clear hw2 hL
                        obtain ⟨hc, hf⟩ := hb.old
                        have HB2 := Lib.hid (HZ2.out.ext.trans hb)
                        clear hb
                        go_wp2_with fail

                        go_roundw
                        case rel => exact ⟨i + 1, by omega, by go_num, by rw [HPL.out], HB2.out⟩
                        case measure => simp [intOf]; omega
              · obtain rfl : i = D.nb := by omega
                have HNN : Hid (LvM wr g2 ld R2 (sqS D IF (t + 1)) ∧ Ext w4 wr) := ⟨by rw [HNX.out]; exact HN.out.ext HY.out, HW6.out.trans HY.out⟩
                go_wp2_with fail
                go_roundw
                case rel => exact ⟨t + 1, g2, R2, by omega, by go_num, rfl, HNN.out⟩
                case measure => simp [intOf]; omega
          · have hs4 : stE D ld (fun _ => true) SS D.ni IV = 4 := by
              rw [stE_ch, if_neg (by omega)] at hst ⊢
              by_cases h : tkG D SS IV = false
              · rw [if_pos h]
              · rw [if_neg h] at hst; exact absurd rfl hst
            have HST : Hid (∀ w' A c, Ext wr w' → Ri w' A D.ni IV → Calls Tryz.prog 11 #[dgv D p, .slice (some ⟨gs, 0, none⟩) ld ld, .slice A D.ni c] w' (fun e w'' => e = .returned (.tuple #[.slice none 0 0, .slice none 0 0, .iface 54 (I 4)]) ∧ Ext w' w'')) := fun w' A c e r => by
              have := Step_bad (cs := ld) (ci := c) (HD.out.ext (HX.out.trans e)) (HT.out.ext (HX.out.trans e)) HCK.out (HS.out.ext e).ln.rn (fun k hk => El.of ((HS.out.ext e).el k hk)) r (by unfold maxLen; omega) hst
              rw [hs4] at this; exact this
            clear hch hst hs4
            go_wp2_with (first
              | (go_at_call 22; (with_reducible refine (HFI.out _ (Ext.refl _)).mono ?_); rintro e1 w5 ⟨Ai, ci, rfl, ri, h5⟩; have HRI := Lib.hid ri; have HX5 := Lib.hid h5; obtain ⟨d0, d1, d2⟩ := HBX.out _ (HX.out.trans h5); clear ri h5)
              | (go_at_call 11; (with_reducible refine (HST.out _ _ _ HX5.out HRI.out).mono ?_); rintro e1 w6 ⟨rfl, h6⟩; have HX6 := Lib.hid (HX5.out.trans h6); clear h6)
              | (go_at_call 23; (with_reducible refine (is_err _ _ _).mono ?_); rintro e1 w7 ⟨rfl, h7⟩; have HX7 := Lib.hid (HX6.out.trans h7); clear h7))
            go_ret
            exact ⟨by simp, HE.out.trans (HX.out.trans HX7.out)⟩
        · obtain rfl : t = n := by omega
          go_wp2_with fail
          go_ret
          exact ⟨rfl, HE.out.trans (HX4.out.trans H.out.2)⟩
end Go.Proofs.YtgnaljnmjphleaaGreatDoor

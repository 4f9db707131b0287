/- The law ScalesFit: it returns true. -/
import Derived.Test.YtgnngldlgcdnfaaGreatDoorSck
import Derived.Test.YtgnngldlgcdnfaaGreatDoorDhac
namespace Go.Proofs.YtgnngldlgcdnfaaGreatDoor
open Go Go.RowKit
attribute [local go_sem ↓] Go.wp_at_zero Go.wp_at_succ

theorem litS_t' {D : Dia} {n m : Nat} {R : Nat → RI} (h : litS D n R m = true) : litB D = true ∧ leI n R = true ∧ m ≤ 100 := by
  unfold litS at h
  simp only [Bool.and_eq_true, decide_eq_true_eq] at h
  exact ⟨h.1, h.2.1, h.2.2⟩
theorem ftX_0 {D : Dia} (hk : chk D = 0) (n m : Nat) (b : Nat → Bool) : ftX D n b m = ftE D.nb n b m := by unfold ftX ftE; rw [mgE_r hk]
theorem ftX_n {D : Dia} (hk : chk D ≠ 0) (n m : Nat) (b : Nat → Bool) : ftX D n b m = chk D := by
  have h : mgE D n b = chk D := by unfold mgE; rw [if_pos hk]
  unfold ftX; rw [if_pos (by rw [h]; exact hk), h]
theorem shX_0 {D : Dia} (hk : chk D = 0) (m : Nat) : shX D m = shE D.nb m := by unfold shX shE; rw [if_neg (by omega)]
theorem shX_n {D : Dia} (hk : chk D ≠ 0) (m : Nat) : shX D m = chk D := by unfold shX; rw [if_pos hk]
/-- Fits in one form. -/
theorem FtP.one {D : Dia} {n m : Nat} {b : Nat → Bool} {S : Nat → IV} {F : Nat → Int} {w : World} {e : Ending} {w' : World} (h : FtP D n b S F m w e w') :
    e = .returned (.tuple #[.bool (if ftX D n b m = 0 then ftB S F n else false), errv (ftX D n b m)]) ∧ Ext w w' := by
  rcases h with ⟨h1, h2, h3⟩ | ⟨h1, h2, h3⟩
  · rw [if_neg h1, errv_n h1]; exact ⟨h2, h3⟩
  · rw [if_pos h1, h1]; exact ⟨h2, h3⟩
theorem ShP.one {D : Dia} {F : Nat → Int} {m : Nat} {w : World} {e : Ending} {w' : World} (h : ShP D F m w e w') :
    e = .returned (.tuple #[I ((if shX D m = 0 then shN D F D.nb else 0 : Nat) : Int), errv (shX D m)]) ∧ Ext w w' := by
  rcases h with ⟨h1, h2, h3⟩ | ⟨h1, h2, h3⟩
  · rw [if_neg h1, errv_n h1]; exact ⟨h2, h3⟩
  · rw [if_pos h1, h1]; exact ⟨h2, h3⟩
set_option maxRecDepth 100000 in
set_option maxHeartbeats 4000000 in
theorem scalesFit_any {w : World} {D : Dia} {p : Pl} {A B : Option Addr} {n c m e : Nat} {R : Nat → RI} {F G : Nat → Nat → Nat} {X : Nat → Int} (d : Dm w D p) (hT : Tabs w) (st : StsI w A n R F G) (rx : Ri w B m X) (hm : m ≤ maxLen) (_ : ∀ i, i < m → in64 (X i)) :
    Calls Tryz.prog 10 #[dgv D p, rgv A n c B m e] w fun e w' => e = .returned (.bool true) ∧ Ext w w' := by
  have hn := st.hn
  unfold maxLen at hm hn
  obtain ⟨W1, hW1⟩ : ∃ W1, W1 = (w.alloc (.cells #[.slice p.AI D.ni p.cI, .slice p.AB D.nb p.cB, .slice p.AO D.no p.cO] 26)).alloc (.cells #[.slice A n c, .slice B m e] 86) := ⟨_, rfl⟩
  have hE : Ext w W1 := by rw [hW1]; exact (Ext.alloc _ _).trans (Ext.alloc _ _)
  have HBX : Hid (∀ w', Ext W1 w' → (w'.cell? ⟨w.heap.size, 0, none⟩ = some (.slice p.AI D.ni p.cI) ∧ w'.cell? ⟨w.heap.size, 1, none⟩ = some (.slice p.AB D.nb p.cB) ∧ w'.cell? ⟨w.heap.size, 2, none⟩ = some (.slice p.AO D.no p.cO)) ∧ w'.cell? ⟨w.heap.size + 1, 0, none⟩ = some (.slice A n c) ∧ w'.cell? ⟨w.heap.size + 1, 1, none⟩ = some (.slice B m e)) := fun w' x => by
    have hl : w.heap.size + 1 < W1.heap.size := by rw [hW1]; simp
    have hb : Bd w' w.heap.size D p := by
      have h0 : Bd W1 w.heap.size D p := by rw [hW1]; exact (Bd.new _ _ _ _).ext (Ext.alloc _ _)
      exact h0.ext x
    exact ⟨⟨hb.c0, hb.c1, hb.c2⟩, (x.old.1 _ _ hl).trans (by rw [hW1]; go_simp), (x.old.1 _ _ hl).trans (by rw [hW1]; go_simp)⟩
  have HA : Hid (∀ w', Ext W1 w' → Calls Tryz.prog 41 #[] w' fun e w'' => e = .returned (.bool true) ∧ Ext w' w'') := fun w' x => scAwake_any w' (hT.ext (hE.trans x))
  have HLI : Hid (∀ w', Ext W1 w' → Calls Tryz.prog 42 #[dgv D p, rgv A n c B m e] w' fun e w'' => e = .returned (.bool (litS D n R m)) ∧ Ext w' w'') := fun w' x => scLight_any (d.ext (hE.trans x)) (st.rn.ext (hE.trans x)) (by unfold maxLen; omega) (by unfold maxLen; omega)
  have HE := Lib.hid hE
  obtain ⟨⟨c0, c1, c2⟩, c3, c4⟩ := HBX.out _ (Ext.refl _)
  have HRC : Hid (∀ w', Ext W1 w' → Calls Tryz.prog 16 #[dgv D p] w' fun e w'' => e = .returned (I (chk D)) ∧ Ext w' w'') := fun w' e => rcheck_any (d.ext (hE.trans e)) (hT.ext (hE.trans e))
  cases hlt : litS D n R m with
  | false =>
    rw [hlt] at HLI
    clear d hT st rx hE hlt HRC
    go_enter Tryz.func10, Tryz.ntmps10
    go_upto_region 1 with fail
    rw [← hW1]; clear hW1
    go_wp2_with (first
        | (go_at_call 41; (with_reducible refine (HA.out _ (by (with_reducible (repeat (first | exact Ext.refl _ | assumption | (refine Ext.toSet ?_ (by omega)) | refine Ext.toAlloc ?_ | refine Ext.toDrew ?_ | refine Ext.toDrewN ?_ | refine Ext.trans ?_ (by assumption)))); (first | done | fail "no"))).mono ?_); rintro e1 w1 ⟨rfl, h1⟩; (try clear c0 c1 c2 c3 c4); obtain ⟨⟨c0, c1, c2⟩, c3, c4⟩ := HBX.out w1 (by (with_reducible (repeat (first | exact Ext.refl _ | assumption | (refine Ext.toSet ?_ (by omega)) | refine Ext.toAlloc ?_ | refine Ext.toDrew ?_ | refine Ext.toDrewN ?_ | refine Ext.trans ?_ (by assumption)))); (first | done | fail "no")))
        | (go_at_call 42; (with_reducible refine (HLI.out _ (by (with_reducible (repeat (first | exact Ext.refl _ | assumption | (refine Ext.toSet ?_ (by omega)) | refine Ext.toAlloc ?_ | refine Ext.toDrew ?_ | refine Ext.toDrewN ?_ | refine Ext.trans ?_ (by assumption)))); (first | done | fail "no"))).mono ?_); rintro e1 w2 ⟨rfl, h2⟩; (try clear c0 c1 c2 c3 c4); obtain ⟨⟨c0, c1, c2⟩, c3, c4⟩ := HBX.out w2 (by (with_reducible (repeat (first | exact Ext.refl _ | assumption | (refine Ext.toSet ?_ (by omega)) | refine Ext.toAlloc ?_ | refine Ext.toDrew ?_ | refine Ext.toDrewN ?_ | refine Ext.trans ?_ (by assumption)))); (first | done | fail "no"))))
    go_ret
    exact ⟨rfl, HE.out.trans (by (with_reducible (repeat (first | exact Ext.refl _ | assumption | (refine Ext.toSet ?_ (by omega)) | refine Ext.toAlloc ?_ | refine Ext.toDrew ?_ | refine Ext.toDrewN ?_ | refine Ext.trans ?_ (by assumption)))); (first | done | fail "no"))⟩
  | true =>
    obtain ⟨hn100, el⟩ := st.el (litS_t' hlt).2.1
    have hm100 := (litS_t' hlt).2.2
    have hlen := (lea_t (litS_t' hlt).2.1).2
    obtain ⟨S, hS⟩ : ∃ S, ivS R F G = S := ⟨_, rfl⟩
    obtain ⟨b, hb⟩ : ∃ b, ivO R F G = b := ⟨_, rfl⟩
    rw [hS, hb] at el
    rw [hlt] at HLI
    have HFT : Hid (∀ w', Ext W1 w' → Calls Tryz.prog 48 #[dgv D p, .slice A n c, .slice B m e] w' fun x w'' => x = .returned (.tuple #[.bool (if ftX D n b m = 0 then ftB S X n else false), errv (ftX D n b m)]) ∧ Ext w' w'') := fun w' y =>
      (Fits_any (d.ext (hE.trans y)) (hT.ext (hE.trans y)) (by omega) (st.rn.ext (hE.trans y)) (fun k hk => ((el k hk).ext (hE.trans y)).toElI) (rx.ext (hE.trans y))).mono fun x w'' hh => hh.one
    have HSH : Hid (∀ w', Ext W1 w' → Calls Tryz.prog 49 #[dgv D p, .slice B m e] w' fun x w'' => x = .returned (.tuple #[I ((if shX D m = 0 then shN D X D.nb else 0 : Nat) : Int), errv (shX D m)]) ∧ Ext w' w'') := fun w' y =>
      (Shifts_any (d.ext (hE.trans y)) (hT.ext (hE.trans y)) (by unfold maxLen; omega) (rx.ext (hE.trans y))).mono fun x w'' hh => hh.one
    have HNM := Lib.hid num_any
    by_cases hk : chk D = 0
    · have ok := chk_ok hk
      have hls : ∀ k, k < n → b k = true → len (mgD (S k)).m ≤ 140 := fun k hk hb => by
        have a := hlen k hk; have cn := (el k hk).cn hb
        have a1 := cn.lo.n; have a2 := cn.hi.n
        exact mgD_len (by omega) (by omega)
      have HRF : Hid (∀ w', Ext W1 w' → Calls Tryz.prog 50 #[dgv D p, .slice A n c, .slice B m e] w' fun x w'' => x = .returned (.tuple #[.bool (ftV D.nb n b S X m), I (ftE D.nb n b m)]) ∧ Ext w' w'') := fun w' y =>
        rFits_any (d.ext (hE.trans y)) (by omega) (st.rn.ext (hE.trans y)) (fun k hk => (el k hk).ext (hE.trans y)) (rx.ext (hE.trans y)) (by omega) hls
      have HRS : Hid (∀ w', Ext W1 w' → Calls Tryz.prog 51 #[dgv D p, .slice B m e] w' fun x w'' => x = .returned (.tuple #[I (shV D X m : Nat), I (shE D.nb m)]) ∧ Ext w' w'') := fun w' y =>
        rShifts_any (d.ext (hE.trans y)) ok (by omega) (rx.ext (hE.trans y))
      rw [ftX_0 hk] at HFT
      rw [shX_0 hk] at HSH
      have e1 : (if ftE D.nb n b m = 0 then ftB S X n else false) = ftV D.nb n b S X m := rfl
      have e2 : (if shE D.nb m = 0 then shN D X D.nb else 0) = shV D X m := by
        unfold shE shV
        by_cases q : m ≠ D.nb
        · rw [if_pos q, if_pos q]; rfl
        · rw [if_neg q, if_neg q]; rfl
      rw [e1] at HFT
      rw [e2] at HSH
      rw [hk] at HRC
      clear d hT st rx hE hlt el hlen hls hk ok e1 e2
      generalize ftV D.nb n b S X m = v1 at *
      generalize ftE D.nb n b m = k1 at *
      generalize shV D X m = v2 at *
      generalize shE D.nb m = k2 at *
      have g1 : (v1 == v1) = true := by simp
      go_enter Tryz.func10, Tryz.ntmps10
      go_upto_region 1 with fail
      rw [← hW1]; clear hW1
      go_wp2_with (first
          | (go_at_call 41; (with_reducible refine (HA.out _ (by (with_reducible (repeat (first | exact Ext.refl _ | assumption | (refine Ext.toSet ?_ (by omega)) | refine Ext.toAlloc ?_ | refine Ext.toDrew ?_ | refine Ext.toDrewN ?_ | refine Ext.trans ?_ (by assumption)))); (first | done | fail "no"))).mono ?_); rintro e1 w1 ⟨rfl, h1⟩; (try clear c0 c1 c2 c3 c4); obtain ⟨⟨c0, c1, c2⟩, c3, c4⟩ := HBX.out w1 (by (with_reducible (repeat (first | exact Ext.refl _ | assumption | (refine Ext.toSet ?_ (by omega)) | refine Ext.toAlloc ?_ | refine Ext.toDrew ?_ | refine Ext.toDrewN ?_ | refine Ext.trans ?_ (by assumption)))); (first | done | fail "no")))
          | (go_at_call 42; (with_reducible refine (HLI.out _ (by (with_reducible (repeat (first | exact Ext.refl _ | assumption | (refine Ext.toSet ?_ (by omega)) | refine Ext.toAlloc ?_ | refine Ext.toDrew ?_ | refine Ext.toDrewN ?_ | refine Ext.trans ?_ (by assumption)))); (first | done | fail "no"))).mono ?_); rintro e1 w2 ⟨rfl, h2⟩; (try clear c0 c1 c2 c3 c4); obtain ⟨⟨c0, c1, c2⟩, c3, c4⟩ := HBX.out w2 (by (with_reducible (repeat (first | exact Ext.refl _ | assumption | (refine Ext.toSet ?_ (by omega)) | refine Ext.toAlloc ?_ | refine Ext.toDrew ?_ | refine Ext.toDrewN ?_ | refine Ext.trans ?_ (by assumption)))); (first | done | fail "no")))
          | (go_at_call 48; (with_reducible refine (HFT.out _ (by (with_reducible (repeat (first | exact Ext.refl _ | assumption | (refine Ext.toSet ?_ (by omega)) | refine Ext.toAlloc ?_ | refine Ext.toDrew ?_ | refine Ext.toDrewN ?_ | refine Ext.trans ?_ (by assumption)))); (first | done | fail "no"))).mono ?_); rintro e1 w4 ⟨rfl, h4⟩; (try clear c0 c1 c2 c3 c4); obtain ⟨⟨c0, c1, c2⟩, c3, c4⟩ := HBX.out w4 (by (with_reducible (repeat (first | exact Ext.refl _ | assumption | (refine Ext.toSet ?_ (by omega)) | refine Ext.toAlloc ?_ | refine Ext.toDrew ?_ | refine Ext.toDrewN ?_ | refine Ext.trans ?_ (by assumption)))); (first | done | fail "no")))
          | (go_at_call 49; (with_reducible refine (HSH.out _ (by (with_reducible (repeat (first | exact Ext.refl _ | assumption | (refine Ext.toSet ?_ (by omega)) | refine Ext.toAlloc ?_ | refine Ext.toDrew ?_ | refine Ext.toDrewN ?_ | refine Ext.trans ?_ (by assumption)))); (first | done | fail "no"))).mono ?_); rintro e1 w5 ⟨rfl, h5⟩; (try clear c0 c1 c2 c3 c4); obtain ⟨⟨c0, c1, c2⟩, c3, c4⟩ := HBX.out w5 (by (with_reducible (repeat (first | exact Ext.refl _ | assumption | (refine Ext.toSet ?_ (by omega)) | refine Ext.toAlloc ?_ | refine Ext.toDrew ?_ | refine Ext.toDrewN ?_ | refine Ext.trans ?_ (by assumption)))); (first | done | fail "no")))
          | (go_at_call 16; (with_reducible refine (HRC.out _ (by (with_reducible (repeat (first | exact Ext.refl _ | assumption | (refine Ext.toSet ?_ (by omega)) | refine Ext.toAlloc ?_ | refine Ext.toDrew ?_ | refine Ext.toDrewN ?_ | refine Ext.trans ?_ (by assumption)))); (first | done | fail "no"))).mono ?_); rintro e1 w6 ⟨rfl, h6⟩; (try clear c0 c1 c2 c3 c4); obtain ⟨⟨c0, c1, c2⟩, c3, c4⟩ := HBX.out w6 (by (with_reducible (repeat (first | exact Ext.refl _ | assumption | (refine Ext.toSet ?_ (by omega)) | refine Ext.toAlloc ?_ | refine Ext.toDrew ?_ | refine Ext.toDrewN ?_ | refine Ext.trans ?_ (by assumption)))); (first | done | fail "no")))
          | (go_at_call 50; (with_reducible refine (HRF.out _ (by (with_reducible (repeat (first | exact Ext.refl _ | assumption | (refine Ext.toSet ?_ (by omega)) | refine Ext.toAlloc ?_ | refine Ext.toDrew ?_ | refine Ext.toDrewN ?_ | refine Ext.trans ?_ (by assumption)))); (first | done | fail "no"))).mono ?_); rintro e1 w7 ⟨rfl, h7⟩; (try clear c0 c1 c2 c3 c4); obtain ⟨⟨c0, c1, c2⟩, c3, c4⟩ := HBX.out w7 (by (with_reducible (repeat (first | exact Ext.refl _ | assumption | (refine Ext.toSet ?_ (by omega)) | refine Ext.toAlloc ?_ | refine Ext.toDrew ?_ | refine Ext.toDrewN ?_ | refine Ext.trans ?_ (by assumption)))); (first | done | fail "no")))
          | (go_at_call 51; (with_reducible refine (HRS.out _ (by (with_reducible (repeat (first | exact Ext.refl _ | assumption | (refine Ext.toSet ?_ (by omega)) | refine Ext.toAlloc ?_ | refine Ext.toDrew ?_ | refine Ext.toDrewN ?_ | refine Ext.trans ?_ (by assumption)))); (first | done | fail "no"))).mono ?_); rintro e1 w8 ⟨rfl, h8⟩; (try clear c0 c1 c2 c3 c4); obtain ⟨⟨c0, c1, c2⟩, c3, c4⟩ := HBX.out w8 (by (with_reducible (repeat (first | exact Ext.refl _ | assumption | (refine Ext.toSet ?_ (by omega)) | refine Ext.toAlloc ?_ | refine Ext.toDrew ?_ | refine Ext.toDrewN ?_ | refine Ext.trans ?_ (by assumption)))); (first | done | fail "no")))
          | (go_at_call 17; (with_reducible refine (HNM.out k1 _).mono ?_); rintro e1 w9 ⟨rfl, h9⟩)
          | (go_at_call 17; (with_reducible refine (HNM.out k2 _).mono ?_); rintro e1 w10 ⟨rfl, h10⟩))
      go_ret
      exact ⟨by simp, HE.out.trans (by (with_reducible (repeat (first | exact Ext.refl _ | assumption | (refine Ext.toSet ?_ (by omega)) | refine Ext.toAlloc ?_ | refine Ext.toDrew ?_ | refine Ext.toDrewN ?_ | refine Ext.trans ?_ (by assumption)))); (first | done | fail "no"))⟩
    · have hk1 : (chk D != 0) = true := by simpa using hk
      rw [ftX_n hk, if_neg hk] at HFT
      rw [shX_n hk, if_neg hk] at HSH
      clear d hT st rx hE hlt el hlen hk
      generalize chk D = k at *
      go_enter Tryz.func10, Tryz.ntmps10
      go_upto_region 1 with fail
      rw [← hW1]; clear hW1
      go_wp2_with (first
          | (go_at_call 41; (with_reducible refine (HA.out _ (by (with_reducible (repeat (first | exact Ext.refl _ | assumption | (refine Ext.toSet ?_ (by omega)) | refine Ext.toAlloc ?_ | refine Ext.toDrew ?_ | refine Ext.toDrewN ?_ | refine Ext.trans ?_ (by assumption)))); (first | done | fail "no"))).mono ?_); rintro e1 w1 ⟨rfl, h1⟩; (try clear c0 c1 c2 c3 c4); obtain ⟨⟨c0, c1, c2⟩, c3, c4⟩ := HBX.out w1 (by (with_reducible (repeat (first | exact Ext.refl _ | assumption | (refine Ext.toSet ?_ (by omega)) | refine Ext.toAlloc ?_ | refine Ext.toDrew ?_ | refine Ext.toDrewN ?_ | refine Ext.trans ?_ (by assumption)))); (first | done | fail "no")))
          | (go_at_call 42; (with_reducible refine (HLI.out _ (by (with_reducible (repeat (first | exact Ext.refl _ | assumption | (refine Ext.toSet ?_ (by omega)) | refine Ext.toAlloc ?_ | refine Ext.toDrew ?_ | refine Ext.toDrewN ?_ | refine Ext.trans ?_ (by assumption)))); (first | done | fail "no"))).mono ?_); rintro e1 w2 ⟨rfl, h2⟩; (try clear c0 c1 c2 c3 c4); obtain ⟨⟨c0, c1, c2⟩, c3, c4⟩ := HBX.out w2 (by (with_reducible (repeat (first | exact Ext.refl _ | assumption | (refine Ext.toSet ?_ (by omega)) | refine Ext.toAlloc ?_ | refine Ext.toDrew ?_ | refine Ext.toDrewN ?_ | refine Ext.trans ?_ (by assumption)))); (first | done | fail "no")))
          | (go_at_call 48; (with_reducible refine (HFT.out _ (by (with_reducible (repeat (first | exact Ext.refl _ | assumption | (refine Ext.toSet ?_ (by omega)) | refine Ext.toAlloc ?_ | refine Ext.toDrew ?_ | refine Ext.toDrewN ?_ | refine Ext.trans ?_ (by assumption)))); (first | done | fail "no"))).mono ?_); rintro e1 w4 ⟨rfl, h4⟩; (try clear c0 c1 c2 c3 c4); obtain ⟨⟨c0, c1, c2⟩, c3, c4⟩ := HBX.out w4 (by (with_reducible (repeat (first | exact Ext.refl _ | assumption | (refine Ext.toSet ?_ (by omega)) | refine Ext.toAlloc ?_ | refine Ext.toDrew ?_ | refine Ext.toDrewN ?_ | refine Ext.trans ?_ (by assumption)))); (first | done | fail "no")))
          | (go_at_call 49; (with_reducible refine (HSH.out _ (by (with_reducible (repeat (first | exact Ext.refl _ | assumption | (refine Ext.toSet ?_ (by omega)) | refine Ext.toAlloc ?_ | refine Ext.toDrew ?_ | refine Ext.toDrewN ?_ | refine Ext.trans ?_ (by assumption)))); (first | done | fail "no"))).mono ?_); rintro e1 w5 ⟨rfl, h5⟩; (try clear c0 c1 c2 c3 c4); obtain ⟨⟨c0, c1, c2⟩, c3, c4⟩ := HBX.out w5 (by (with_reducible (repeat (first | exact Ext.refl _ | assumption | (refine Ext.toSet ?_ (by omega)) | refine Ext.toAlloc ?_ | refine Ext.toDrew ?_ | refine Ext.toDrewN ?_ | refine Ext.trans ?_ (by assumption)))); (first | done | fail "no")))
          | (go_at_call 16; (with_reducible refine (HRC.out _ (by (with_reducible (repeat (first | exact Ext.refl _ | assumption | (refine Ext.toSet ?_ (by omega)) | refine Ext.toAlloc ?_ | refine Ext.toDrew ?_ | refine Ext.toDrewN ?_ | refine Ext.trans ?_ (by assumption)))); (first | done | fail "no"))).mono ?_); rintro e1 w6 ⟨rfl, h6⟩; (try clear c0 c1 c2 c3 c4); obtain ⟨⟨c0, c1, c2⟩, c3, c4⟩ := HBX.out w6 (by (with_reducible (repeat (first | exact Ext.refl _ | assumption | (refine Ext.toSet ?_ (by omega)) | refine Ext.toAlloc ?_ | refine Ext.toDrew ?_ | refine Ext.toDrewN ?_ | refine Ext.trans ?_ (by assumption)))); (first | done | fail "no")))
          | (go_at_call 17; (with_reducible refine (HNM.out k _).mono ?_); rintro e1 w9 ⟨rfl, h9⟩))
      go_ret
      exact ⟨by simp, HE.out.trans (by (with_reducible (repeat (first | exact Ext.refl _ | assumption | (refine Ext.toSet ?_ (by omega)) | refine Ext.toAlloc ?_ | refine Ext.toDrew ?_ | refine Ext.toDrewN ?_ | refine Ext.trans ?_ (by assumption)))); (first | done | fail "no"))⟩
end Go.Proofs.YtgnngldlgcdnfaaGreatDoor

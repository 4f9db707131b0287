/- Package scales: Fits. -/
import Derived.Test.YtgnngldlgcdnfaaGreatDoorScc
namespace Go.Proofs.YtgnngldlgcdnfaaGreatDoor
open Go Go.RowKit
attribute [local go_sem ↓] Go.wp_at_zero Go.wp_at_succ

/-- Is a scale permitted, and kept? -/
def fitK (S : Nat → IV) (F : Nat → Int) (i : Nat) : Bool := decide (0 ≤ F i) && (decide (F i ≤ 30) && fitB (mgD (S i)) (F i) 2147483647)
theorem ftB_eq (S : Nat → IV) (F : Nat → Int) (n : Nat) : ftB S F n = allN n (fitK S F) := rfl
/-- What is wrong with scales that are asked about. -/
def ftX (D : Dia) (n : Nat) (b : Nat → Bool) (m : Nat) : Int := if mgE D n b ≠ 0 then mgE D n b else if m ≠ D.nb then 11 else 0
def FtP (D : Dia) (n : Nat) (b : Nat → Bool) (S : Nat → IV) (F : Nat → Int) (m : Nat) (w : World) (e : Ending) (w' : World) : Prop :=
  (ftX D n b m ≠ 0 ∧ e = .returned (.tuple #[.bool false, .iface 48 (I (ftX D n b m))]) ∧ Ext w w') ∨
  (ftX D n b m = 0 ∧ e = .returned (.tuple #[.bool (ftB S F n), .nilIface]) ∧ Ext w w')
set_option maxRecDepth 100000 in
set_option maxHeartbeats 4000000 in
theorem Fits_any {w : World} {D : Dia} {p : Pl} {A B : Option Addr} {n c m e : Nat} {R : Nat → RI} {S : Nat → IV} {b : Nat → Bool} {F : Nat → Int} (d : Dm w D p) (hT : Tabs w) (hn : n ≤ 1000000) (rs : RnI w A n R) (el : ∀ k, k < n → ElI w (R k) (S k) (b k)) (rf : Ri w B m F) :
    Calls Tryz.prog 48 #[dgv D p, .slice A n c, .slice B m e] w (FtP D n b S F m w) := by
  obtain ⟨W1, hW1⟩ : ∃ W1, W1 = w.alloc (.cells #[.slice p.AI D.ni p.cI, .slice p.AB D.nb p.cB, .slice p.AO D.no p.cO] 26) := ⟨_, rfl⟩
  have hE : Ext w W1 := by rw [hW1]; exact Ext.alloc _ _
  have hbd : Bd W1 w.heap.size D p := by rw [hW1]; exact Bd.new _ _ _ _
  have HBX : Hid (∀ w', Ext W1 w' → w'.cell? ⟨w.heap.size, 0, none⟩ = some (.slice p.AI D.ni p.cI) ∧ w'.cell? ⟨w.heap.size, 1, none⟩ = some (.slice p.AB D.nb p.cB) ∧ w'.cell? ⟨w.heap.size, 2, none⟩ = some (.slice p.AO D.no p.cO)) := fun w' e => by
    have a := hbd.ext e; exact ⟨a.c0, a.c1, a.c2⟩
  have HM : Hid (∀ w', Ext W1 w' → Calls Tryz.prog 106 #[dgv D p, .slice A n c] w' (MgP D n b S w')) := fun w' e => magnitudes_any (d.ext (hE.trans e)) (hT.ext (hE.trans e)) hn (rs.ext (hE.trans e)) fun k hk => (el k hk).ext (hE.trans e)
  have HT := Lib.hid (hT.ext hE)
  have HE := Lib.hid hE
  have HRF := Lib.hid (rf.ext hE)
  have HEE : Hid (∀ k, k < n → b k = true → End (S k).lo ∧ End (S k).hi) := fun k hk hb => by have cn := (el k hk).cn hb; exact ⟨⟨cn.lo.ok, cn.el⟩, cn.hi.ok, cn.eh⟩
  obtain ⟨c0, c1, c2⟩ := HBX.out _ (Ext.refl _)
  have lb := d.lb
  unfold maxLen at lb
  clear d hT rs el hE hbd rf
  by_cases hk : mgE D n b ≠ 0
  · have HM2 : Hid (∀ w', Ext W1 w' → Calls Tryz.prog 106 #[dgv D p, .slice A n c] w' fun e w'' => e = .returned (.tuple #[.slice none 0 0, .iface 48 (I (mgE D n b))]) ∧ Ext w' w'') := fun w' e => (HM.out w' e).mono fun e w'' hh => by
      rcases hh with ⟨_, h2⟩ | ⟨h1, _⟩
      · exact h2
      · exact absurd h1 hk
    have HR : Hid (ftX D n b m = mgE D n b) := by show _ = _; unfold ftX; rw [if_pos hk]
    have HK := Lib.hid hk
    clear hk HM
    generalize mgE D n b = k at *
    go_enter Tryz.func48, Tryz.ntmps48
    go_upto_region 1 with fail
    rw [← hW1]; clear hW1
    go_wp2_with (go_at_call 106; (with_reducible refine (HM2.out _ (Ext.refl _)).mono ?_); rintro e1 w1 ⟨rfl, h1⟩)
    go_ret2
    exact .inl ⟨by rw [HR.out]; exact HK.out, by rw [HR.out]; rfl, HE.out.trans h1⟩
  have hk0 : mgE D n b = 0 := by omega
  have HM2 : Hid (∀ w', Ext W1 w' → Calls Tryz.prog 106 #[dgv D p, .slice A n c] w' fun e w'' => ∃ g R, e = .returned (.tuple #[.slice (some ⟨g, 0, none⟩) n n, .nilIface]) ∧ BuM w' w'' g n R (fun i => mgD (S i))) := fun w' e => (HM.out w' e).mono fun e w'' hh => by
    rcases hh with ⟨h1, _⟩ | ⟨_, h2⟩
    · exact absurd hk0 h1
    · exact h2
  obtain ⟨hn1, hbt⟩ := rgE_z (mgE_z hk0).2
  have hnb : n ≤ 64 := by have := (chk_ok (mgE_z hk0).1).nb; omega
  have HXZ : Hid (ftX D n b m = if m ≠ D.nb then 11 else 0) := by show _ = _; unfold ftX; rw [if_neg hk]
  have HSZ : Hid (∀ k, k < n → (mgD (S k)).ok ∧ len (mgD (S k)).m ≤ 1048576) := fun k hk => mgD_sz (HEE.out k hk (hbt k hk)).1 (HEE.out k hk (hbt k hk)).2
  clear hk hk0 HM HEE hbt
  by_cases hmn : m ≠ D.nb
  · have HR : Hid (ftX D n b m = 11) := by show _ = _; rw [HXZ.out, if_pos hmn]
    have hq1 : ((m : Int) != (D.nb : Int)) = true := by simp; omega
    clear hmn hn1
    go_enter Tryz.func48, Tryz.ntmps48
    go_upto_region 1 with fail
    rw [← hW1]; clear hW1
    go_wp2_with (go_at_call 106; (with_reducible refine (HM2.out _ (Ext.refl _)).mono ?_); rintro e1 w1 ⟨gm, Rm, rfl, hm⟩; have HMM := Lib.hid hm; clear c0 c1 c2; obtain ⟨c0, c1, c2⟩ := HBX.out _ hm.ext; clear hm)
    go_ret2
    exact .inl ⟨by rw [HR.out]; decide, by rw [HR.out]; rfl, HE.out.trans HMM.out.ext⟩
  have hq1 : ((m : Int) != (D.nb : Int)) = false := by simp; omega
  have HR0 : Hid (ftX D n b m = 0) := by show _ = _; rw [HXZ.out, if_neg hmn]
  have hmn2 : m = n := by omega
  have HMN := Lib.hid hmn2
  obtain ⟨v, hv⟩ : ∃ v, ftB S F n = v := ⟨_, rfl⟩
  have HV := Lib.hid hv
  have HF1 : Hid (∀ v', ftB S F n = v' → ∀ (e : Ending) (w' : World), e = .returned (.tuple #[.bool v', .nilIface]) → Ext w w' → FtP D n b S F m w e w') := fun v' h e w' he hx => .inr ⟨HR0.out, by rw [h]; exact he, hx⟩
  clear hmn hmn2 hn1 hv
  go_enter Tryz.func48, Tryz.ntmps48
  go_upto_region 1 with fail
  rw [← hW1]; clear hW1
  go_upto_region 6 with (go_at_call 106; (with_reducible refine (HM2.out _ (Ext.refl _)).mono ?_); rintro e1 w1 ⟨gm, Rm, rfl, hm⟩; have HMM := Lib.hid hm; clear c0 c1 c2; obtain ⟨c0, c1, c2⟩ := HBX.out _ hm.ext; clear hm)
  clear c0 c1 c2 hq1
  go_wp2_with fail
  go_loopw [30] (fun s wr => ∃ (j : Nat), j ≤ n ∧ s = I j ∧ Hid (∀ i, i < j → fitK S F i = true) ∧ Hid (Ext w1 wr)) (fun s _ => n - (intOf s).toNat)
  case atStart => exact ⟨0, Nat.zero_le _, rfl, fun i hi => absurd hi (by omega), Ext.refl _⟩
  case round =>
    obtain ⟨j, hj, rfl, HB, H⟩ := hrel
    by_cases hlt : j < n
    · have lv := HMM.out.lv.ext H.out
      obtain ⟨x0, x1, x2⟩ := lv.cells hlt
      have cn := lv.el j hlt
      have hjm : j < m := by have := HMN.out; omega
      obtain ⟨bf, of, hbf, hbl, hcf⟩ := HRF.out.ext (HMM.out.ext.trans H.out) (by omega)
      have xf := hcf j hjm
      have hlt' : (j : Int) < (n : Int) := by omega
      have hjm' : (j : Int) < (m : Int) := by omega
      obtain ⟨W2, hW2⟩ : ∃ W2, W2 = wr.alloc (.cells #[.bool (Rm j).neg, .slice (Rm j).A (Rm j).n (Rm j).c, I (Rm j).den] 56) := ⟨_, rfl⟩
      have hE2 : Ext wr W2 := by rw [hW2]; exact Ext.alloc _ _
      have hb2 : Bx W2 wr.heap.size (.bool (Rm j).neg) (.slice (Rm j).A (Rm j).n (Rm j).c) (I (Rm j).den) := by rw [hW2]; exact Bx.new _ _ _ _ _
      have hl2 := hb2.lt
      have hbl2 : bf < W2.heap.size := Nat.lt_of_lt_of_le hbl hE2.size
      have xf2 := (hE2.old.1 _ _ hbl).trans xf
      have HAM : Hid (∀ w' (x : Int), Ext W2 w' → 0 ≤ x → x ≤ 30 → Calls Tryz.prog 112 #[(Rm j).v, I x, I 2147483647] w' fun e w'' => e = .returned (.bool (fitB (mgD (S j)) x 2147483647)) ∧ Ext w' w'') := fun w' x e h0 h1 =>
        isAtMost_any x 2147483647 (cn.ext (hE2.trans e)) (Nat.le_trans (HSZ.out j hlt).2 (by decide)) (HT.out.ext (HMM.out.ext.trans (H.out.trans (hE2.trans e)))) ⟨by omega, by omega⟩ ⟨by omega, by omega⟩
      have HFK : Hid (fitK S F j = (decide (0 ≤ F j) && (decide (F j ≤ 30) && fitB (mgD (S j)) (F j) 2147483647))) := rfl
      have HNO : Hid (fitK S F j = false → ftB S F n = false) := fun h => allN_false.2 ⟨j, hlt, h⟩
      have HYE : Hid (fitK S F j = true → ∀ i, i < j + 1 → fitK S F i = true) := fun h i hi => by
        by_cases e : i = j
        · subst e; exact h
        · exact HB.out i (by omega)
      have HX := Lib.hid (H.out.trans hE2)
      obtain ⟨⟨k0, k1, k2⟩, _⟩ := hb2
      clear lv hcf xf hjm hE2 hbl
      rw [hbf] at *
      generalize F j = x at *
      generalize mgD (S j) = mj at *
      generalize Rm j = rj at *
      obtain ⟨n1, A1, l1, e1', d1⟩ := rj
      simp only at hW2 x0 x1 x2 k0 k1 k2 HAM
      have hb : Ext W2 W2 := Ext.refl _
      clear cn
      by_cases p1 : x < 0
      · have p1' : decide (x < 0) = true := decide_eq_true p1
        have HV2 := Lib.hid (HNO.out (by rw [HFK.out, decide_eq_false (show ¬ 0 ≤ x by omega)]; rfl))
        clear HAM HFK HNO HYE
        go_upto_region 9 with fail
        rw [← hW2]; clear hW2
        have hL := fun (x : Later _) => (Ext.trans hb x.ext).old.1
        refine wp_region_later (by kernel_rfl) (by kernel_rfl) ?_
        repeat (go_big_quiet_step (fail))
        refine wpQuiet_nil ?_
        intro w2 hw2
        replace hb := Ext.trans hb (Later.of hw2)
        clear hw2 hL
        obtain ⟨hc, hf⟩ := hb.old
        go_wp2_with fail
        go_ret2
        exact HF1.out _ HV2.out _ _ rfl (HE.out.trans (HMM.out.ext.trans (HX.out.trans hb)))
      have p1' : decide (x < 0) = false := decide_eq_false p1
      by_cases p2 : 30 < x
      · have p2' : decide (30 < x) = true := decide_eq_true p2
        have HV2 := Lib.hid (HNO.out (by rw [HFK.out, decide_eq_false (show ¬ x ≤ 30 by omega)]; simp))
        clear HAM HFK HNO HYE
        go_upto_region 9 with fail
        rw [← hW2]; clear hW2
        have hL := fun (x : Later _) => (Ext.trans hb x.ext).old.1
        refine wp_region_later (by kernel_rfl) (by kernel_rfl) ?_
        repeat (go_big_quiet_step (fail))
        refine wpQuiet_nil ?_
        intro w2 hw2
        replace hb := Ext.trans hb (Later.of hw2)
        clear hw2 hL
        obtain ⟨hc, hf⟩ := hb.old
        go_wp2_with fail
        go_ret2
        exact HF1.out _ HV2.out _ _ rfl (HE.out.trans (HMM.out.ext.trans (HX.out.trans hb)))
      have p2' : decide (30 < x) = false := decide_eq_false p2
      have HAM2 : Hid (∀ w', Ext W2 w' → Calls Tryz.prog 112 #[dv n1 A1 l1 e1' d1, I x, I 2147483647] w' fun e w'' => e = .returned (.bool (fitB mj x 2147483647)) ∧ Ext w' w'') := fun w' e => HAM.out w' x e (by omega) (by omega)
      have HFK2 : Hid (fitK S F j = fitB mj x 2147483647) := by show _ = _; rw [HFK.out, decide_eq_true (show 0 ≤ x by omega), decide_eq_true (show x ≤ 30 by omega)]; rfl
      clear HAM HFK
      generalize fitB mj x 2147483647 = f at *
      cases f with
      | false =>
        have HV2 := Lib.hid (HNO.out HFK2.out)
        clear HNO HYE HFK2
        go_upto_region 9 with fail
        rw [← hW2]; clear hW2
        have hL := fun (x : Later _) => (Ext.trans hb x.ext).old.1
        refine wp_region_later (by kernel_rfl) (by kernel_rfl) ?_
        repeat (go_big_quiet_step ((go_at_call 112; with_reducible exact Calls.later (HAM2.out _ (Later.ext _)))))
        refine wpQuiet_nil ?_
        intro w2 hw2
        replace hb := Ext.trans hb (Later.of hw2)
        clear hw2 hL
        obtain ⟨hc, hf⟩ := hb.old
        go_wp2_with fail
        go_ret2
        exact HF1.out _ HV2.out _ _ rfl (HE.out.trans (HMM.out.ext.trans (HX.out.trans hb)))
      | true =>
        have HY2 := Lib.hid (HYE.out HFK2.out)
        clear HNO HYE HFK2
        go_upto_region 9 with fail
        rw [← hW2]; clear hW2
        have hL := fun (x : Later _) => (Ext.trans hb x.ext).old.1
        refine wp_region_later (by kernel_rfl) (by kernel_rfl) ?_
        repeat (go_big_quiet_step ((go_at_call 112; with_reducible exact Calls.later (HAM2.out _ (Later.ext _)))))
        refine wpQuiet_nil ?_
        intro w2 hw2
        replace hb := Ext.trans hb (Later.of hw2)
        clear hw2 hL
        obtain ⟨hc, hf⟩ := hb.old
        go_wp2_with fail
        (try rw [← hbf])
        go_roundw
        case rel => exact ⟨j + 1, by omega, by go_num, HY2, HX.out.trans hb⟩
        case measure => simp [intOf]; omega
    · obtain rfl : j = n := by omega
      have HV2 : Hid (ftB S F j = true) := allN_iff.2 HB.out
      go_wp2_with fail
      go_ret2
      exact HF1.out _ HV2.out _ _ rfl (HE.out.trans (HMM.out.ext.trans H.out))
end Go.Proofs.YtgnngldlgcdnfaaGreatDoor

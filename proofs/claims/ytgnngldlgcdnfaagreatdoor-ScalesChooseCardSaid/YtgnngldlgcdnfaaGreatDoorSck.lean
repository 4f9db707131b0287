/- Package scales: the reference's Room, Check, Fits, Shifts. -/
import Derived.Test.YtgnngldlgcdnfaaGreatDoorScg
import Derived.Test.YtgnngldlgcdnfaaGreatDoorRefmo
import Derived.Test.YtgnngldlgcdnfaaGreatDoorRefhj
namespace Go.Proofs.YtgnngldlgcdnfaaGreatDoor
open Go Go.RowKit
attribute [local go_sem ↓] Go.wp_at_zero Go.wp_at_succ

theorem mgD_len {x : IV} (h1 : len x.lo.m ≤ 140) (h2 : len x.hi.m ≤ 140) : len (mgD x).m ≤ 140 := by
  have e : ∀ u : DV, len u.m ≤ 140 → len (absD u).m ≤ 140 := fun u h => Nat.le_trans (len_mono (mkD_m_le _ _ _)) h
  unfold mgD maxD
  split
  · exact e _ h2
  · exact e _ h1
theorem lim_sub' {a b : DV} (ha : a.ok) (hb : b.ok) (h1 : len a.m ≤ 3000) (h2 : len b.m ≤ 3000) : len (subD a b).m ≤ 16777216 := lim_subE ha hb (by omega) (by omega)
set_option maxRecDepth 100000 in
set_option maxHeartbeats 2000000 in
theorem rRoom_any {w : World} {r : RI} {x : IV} (f lim : Int) (h : CnI w r x) (hl : len (mgD x).m ≤ 140) (hf : lmtOk f) (hm : lmtOk lim) :
    Calls Tryz.prog 111 #[r.v, I f, I lim] w fun e w' => e = .returned (.bool (fitB (mgD x) f lim)) ∧ Ext w w' := by
  obtain ⟨W1, hW1⟩ : ∃ W1, W1 = w.alloc (.cells #[.bool r.lo.neg, .slice r.lo.A r.lo.n r.lo.c, I r.lo.den, .bool r.hi.neg, .slice r.hi.A r.hi.n r.hi.c, I r.hi.den] 58) := ⟨_, rfl⟩
  have hE : Ext w W1 := by rw [hW1]; exact Ext.alloc _ _
  have hbx : B6 W1 w.heap.size (.bool r.lo.neg) (.slice r.lo.A r.lo.n r.lo.c) (I r.lo.den) (.bool r.hi.neg) (.slice r.hi.A r.hi.n r.hi.c) (I r.hi.den) := by rw [hW1]; exact B6.new _ _ _ _ _ _ _ _
  obtain ⟨mg, hmg⟩ : ∃ mg, mgD x = mg := ⟨_, rfl⟩
  have mok : mg.ok := hmg ▸ mgD_ok
  have HMG : Hid (∀ w', Ext W1 w' → Calls Tryz.prog 161 #[r.v] w' (fun e w'' => ∃ Q q, e = .returned (dv mg.neg Q (len mg.m) q mg.den) ∧ Cn w'' (cnR mg Q q) mg ∧ Ext w' w'')) := fun w' y => (rimag_num (h.ext (hE.trans y)).iw).mono fun e w'' hh => by
    obtain ⟨Q, q, h1, h2, h3⟩ := hh
    have e0 : hi2 (absD x.lo) (absD x.hi) = mg := hmg
    rw [e0] at h1 h2
    exact ⟨Q, q, h1, Cn.of h2.1 h2.2 mok (by rw [← hmg]; omega), h3⟩
  rw [hmg] at hl ⊢
  obtain ⟨sv, hs⟩ : ∃ sv, shiftD mg f = sv := ⟨_, rfl⟩
  obtain ⟨ov, ho⟩ : ∃ ov, ofI lim 0 = ov := ⟨_, rfl⟩
  obtain ⟨v, hv⟩ : ∃ v, cmpD sv ov = v := ⟨_, rfl⟩
  have hb : fitB mg f lim = decide (v ≤ 0) := by unfold fitB; rw [hs, ho, hv]
  have so : sv.ok ∧ len sv.m ≤ 3000 := by rw [← hs]; exact ⟨shiftD_ok _ _, by have := lim_shift mg f; omega⟩
  have oo : ov.ok ∧ len ov.m ≤ 3000 := by rw [← ho]; exact ⟨ofI_ok _ _, Nat.le_trans (len_mono (mkD_m_le _ _ _)) (Nat.le_trans (len_le (n := 2) (by have := hm.1; have := hm.2; unfold pB; omega)) (by decide))⟩
  have HS : Hid (∀ w' Q q, Cn w' (cnR mg Q q) mg → Calls Tryz.prog 24 #[dv mg.neg Q (len mg.m) q mg.den, I f] w' (DyRes sv w')) := fun w' Q q cn => by rw [← hs]; exact rshift_any2 f cn.dy hf.1 hf.2
  have HO : Hid (∀ w', Calls Tryz.prog 27 #[I lim] w' (DyRes ov w')) := fun w' => by rw [← ho]; exact rof_any lim w' hm.1 hm.2
  have HC : Hid (∀ w' A c B k, Cn w' (cnR sv A c) sv → Cn w' (cnR ov B k) ov → Calls Tryz.prog 95 #[dv sv.neg A (len sv.m) c sv.den, dv ov.neg B (len ov.m) k ov.den] w' (fun e w'' => e = .returned (I v) ∧ Ext w' w'')) := fun w' A c B k a b => by
    rw [← hv]; exact rdcmp_any a.dy b.dy (lim_sub' so.1 oo.1 so.2 oo.2) (subD_ok _ _)
  have SO := Lib.hid so; have OO := Lib.hid oo
  have HE := Lib.hid hE
  rw [hb]
  obtain ⟨⟨k0, k1, k2, k3, k4, k5⟩, _⟩ := hbx
  clear h hl hf hm hs ho hv hb hE hmg mok so oo
  obtain ⟨⟨n1, A1, l1, c1, d1⟩, ⟨n2, A2, l2, c2, d2⟩⟩ := r
  show Calls _ _ #[iv n1 A1 l1 c1 d1 n2 A2 l2 c2 d2, I f, I lim] _ _
  simp only at HMG k0 k1 k2 k3 k4 k5 hW1
  go_enter Tryz.func111, Tryz.ntmps111
  go_upto_region 1 with fail
  rw [← hW1]; clear hW1
  go_wp2_with (first
    | (go_at_call 161; (with_reducible refine (HMG.out _ (by (with_reducible (repeat (first | exact Ext.refl _ | assumption | (refine Ext.toSet ?_ (by omega)) | refine Ext.toAlloc ?_ | refine Ext.toDrew ?_ | refine Ext.toDrewN ?_ | refine Ext.trans ?_ (by assumption)))); (first | done | fail "no"))).mono ?_); rintro e2 w2 ⟨A2', c2', rfl, cn2, hx2⟩; have CN2 := Lib.hid cn2; clear cn2)
    | (go_at_call 24; (with_reducible refine (HS.out _ _ _ (CN2.out.ext (by (with_reducible (repeat (first | exact Ext.refl _ | assumption | (refine Ext.toSet ?_ (by omega)) | refine Ext.toAlloc ?_ | refine Ext.toDrew ?_ | refine Ext.toDrewN ?_ | refine Ext.trans ?_ (by assumption)))); (first | done | fail "no")))).mono ?_); rintro e3 w3 hr; obtain ⟨A3, c3, rfl, on3, hx3⟩ := hr; have CN3 := Lib.hid (Cn.on on3 SO.out.1 (Nat.le_trans SO.out.2 (by decide))); clear on3)
    | (go_at_call 27; (with_reducible refine (HO.out _).mono ?_); rintro e4 w4 hr; obtain ⟨A4, c4, rfl, on4, hx4⟩ := hr; have CN4 := Lib.hid (Cn.on on4 OO.out.1 (Nat.le_trans OO.out.2 (by decide))); clear on4)
    | (go_at_call 95; (with_reducible refine (HC.out _ _ _ _ _ (CN3.out.ext (by (with_reducible (repeat (first | exact Ext.refl _ | assumption | (refine Ext.toSet ?_ (by omega)) | refine Ext.toAlloc ?_ | refine Ext.toDrew ?_ | refine Ext.toDrewN ?_ | refine Ext.trans ?_ (by assumption)))); (first | done | fail "no"))) (CN4.out.ext (by (with_reducible (repeat (first | exact Ext.refl _ | assumption | (refine Ext.toSet ?_ (by omega)) | refine Ext.toAlloc ?_ | refine Ext.toDrew ?_ | refine Ext.toDrewN ?_ | refine Ext.trans ?_ (by assumption)))); (first | done | fail "no")))).mono ?_); rintro e5 w5 ⟨rfl, hx5⟩))
  go_ret
  exact ⟨rfl, HE.out.trans (by (with_reducible (repeat (first | exact Ext.refl _ | assumption | (refine Ext.toSet ?_ (by omega)) | refine Ext.toAlloc ?_ | refine Ext.toDrew ?_ | refine Ext.toDrewN ?_ | refine Ext.trans ?_ (by assumption)))); (first | done | fail "no"))⟩
set_option maxRecDepth 100000 in
set_option maxHeartbeats 1000000 in
theorem rCheck13_any {w : World} {D : Dia} {p : Pl} {A : Option Addr} {n c : Nat} {R : Nat → RI} {S : Nat → IV} {b : Nat → Bool} (d : Dm w D p) (hn : n ≤ 1000000) (rs : RnI w A n R) (el : ∀ k, k < n → ElR w (R k) (S k) (b k)) :
    Calls Tryz.prog 110 #[dgv D p, .slice A n c] w fun e w' => e = .returned (I (rgE D.nb n b)) ∧ Ext w w' := by
  have lb := d.lb
  unfold maxLen at lb
  obtain ⟨W1, hW1⟩ : ∃ W1, W1 = w.alloc (.cells #[.slice p.AI D.ni p.cI, .slice p.AB D.nb p.cB, .slice p.AO D.no p.cO] 26) := ⟨_, rfl⟩
  have hE : Ext w W1 := by rw [hW1]; exact Ext.alloc _ _
  have hbd : Bd W1 w.heap.size D p := by rw [hW1]; exact Bd.new _ _ _ _
  have HRS := Lib.hid (rs.ext hE)
  have HEL : Hid (∀ k, k < n → ElR W1 (R k) (S k) (b k)) := fun k hk => (el k hk).ext hE
  have HE := Lib.hid hE
  obtain ⟨c0, c1, c2⟩ := hbd
  obtain ⟨v, hv⟩ : ∃ v, rgE D.nb n b = v := ⟨_, rfl⟩
  have HV := Lib.hid hv
  rw [hv]
  clear d rs el hE hv
  by_cases hq : n ≠ D.nb
  · have HR : Hid (v = 11) := by show _ = _; rw [← HV.out, rgE_shape hq]
    have hq1 : ((n : Int) != (D.nb : Int)) = true := by simp; omega
    clear hq
    go_enter Tryz.func110, Tryz.ntmps110
    go_upto_region 1 with fail
    rw [← hW1]; clear hW1
    go_wp2_with fail
    go_ret
    exact ⟨by rw [HR.out]; rfl, HE.out⟩
  have HNB : Hid (n = D.nb) := by show _ = _; omega
  have hq1 : ((n : Int) != (D.nb : Int)) = false := by simp; omega
  clear hq
  go_enter Tryz.func110, Tryz.ntmps110
  go_upto_region 1 with fail
  rw [← hW1]; clear hW1
  go_wp2_with fail
  clear hq1 c0 c1 c2
  go_loopw [15] (fun s wr => ∃ (j : Nat), j ≤ n ∧ s = I j ∧ Hid (∀ i, i < j → b i = true) ∧ Hid (Ext W1 wr)) (fun s _ => n - (intOf s).toNat)
  case atStart => exact ⟨0, Nat.zero_le _, rfl, fun i hi => absurd hi (by omega), Ext.refl _⟩
  case round =>
    obtain ⟨j, hj, rfl, HB, H⟩ := hrel
    by_cases hlt : j < n
    · obtain ⟨bb, oo, hba, hbb, hc⟩ := HRS.out.ext H.out (by omega)
      obtain ⟨x0, x1, x2, x3, x4, x5⟩ := hc j hlt
      have EL := Lib.hid ((HEL.out j hlt).ext H.out)
      have hlt' : (j : Int) < (n : Int) := by omega
      have HVC := Lib.hid EL.out.rv
      clear hc
      obtain ⟨z, hz⟩ : ∃ z, b j = z := ⟨_, rfl⟩
      rw [hz] at HVC
      have HZ := Lib.hid hz
      clear hz EL
      generalize R j = rj at *
      obtain ⟨⟨n1, A1, l1, e1', d1⟩, ⟨n2, A2, l2, e2', d2⟩⟩ := rj
      cases z with
      | false =>
        have HR : Hid (v = 2) := by show _ = _; rw [← HV.out, rgE_form HNB.out hlt HZ.out]
        go_wp2_with (go_at_call 61; (with_reducible refine (HVC.out _ (by (with_reducible (repeat (first | exact Ext.refl _ | assumption | (refine Ext.toSet ?_ (by omega)) | refine Ext.toAlloc ?_ | refine Ext.toDrew ?_ | refine Ext.toDrewN ?_ | refine Ext.trans ?_ (by assumption)))); (first | done | fail "no"))).mono ?_); rintro e2 w2 ⟨rfl, h2⟩)
        go_ret
        exact ⟨by rw [HR.out]; rfl, HE.out.trans (H.out.trans (by (with_reducible (repeat (first | exact Ext.refl _ | assumption | (refine Ext.toSet ?_ (by omega)) | refine Ext.toAlloc ?_ | refine Ext.toDrew ?_ | refine Ext.toDrewN ?_ | refine Ext.trans ?_ (by assumption)))); (first | done | fail "no")))⟩
      | true =>
        have HB2 : Hid (∀ i, i < j + 1 → b i = true) := fun i hi => by
          by_cases e : i = j
          · subst e; exact HZ.out
          · exact HB.out i (by omega)
        go_wp2_with (go_at_call 61; (with_reducible refine (HVC.out _ (by (with_reducible (repeat (first | exact Ext.refl _ | assumption | (refine Ext.toSet ?_ (by omega)) | refine Ext.toAlloc ?_ | refine Ext.toDrew ?_ | refine Ext.toDrewN ?_ | refine Ext.trans ?_ (by assumption)))); (first | done | fail "no"))).mono ?_); rintro e2 w2 ⟨rfl, h2⟩)
        (try rw [← hba])
        go_roundw
        case rel => exact ⟨j + 1, by omega, by go_num, HB2, H.out.trans (by (with_reducible (repeat (first | exact Ext.refl _ | assumption | (refine Ext.toSet ?_ (by omega)) | refine Ext.toAlloc ?_ | refine Ext.toDrew ?_ | refine Ext.toDrewN ?_ | refine Ext.trans ?_ (by assumption)))); (first | done | fail "no"))⟩
        case measure => simp [intOf]; omega
    · obtain rfl : j = n := by omega
      have HR : Hid (v = 0) := by show _ = _; rw [← HV.out, rgE_ok HNB.out HB.out]
      go_wp2_with fail
      go_ret
      exact ⟨by rw [HR.out]; rfl, HE.out.trans H.out⟩
/-- Do the scales fit, where nothing is wrong? -/
def ftV (nb n : Nat) (b : Nat → Bool) (S : Nat → IV) (F : Nat → Int) (m : Nat) : Bool := if ftE nb n b m = 0 then ftB S F n else false
theorem ftE_r {nb n m : Nat} {b : Nat → Bool} (h : rgE nb n b ≠ 0) : ftE nb n b m = rgE nb n b := by unfold ftE; rw [if_pos h]
theorem ftE_m {nb n m : Nat} {b : Nat → Bool} (h : rgE nb n b = 0) (hm : m ≠ nb) : ftE nb n b m = 11 := by unfold ftE; rw [if_neg (by omega), if_pos hm]
theorem ftE_z {nb n m : Nat} {b : Nat → Bool} (h : rgE nb n b = 0) (hm : m = nb) : ftE nb n b m = 0 := by unfold ftE; rw [if_neg (by omega), if_neg (by omega)]
set_option maxRecDepth 100000 in
set_option maxHeartbeats 4000000 in
theorem rFits_any {w : World} {D : Dia} {p : Pl} {A B : Option Addr} {n c m e : Nat} {R : Nat → RI} {S : Nat → IV} {b : Nat → Bool} {F : Nat → Int} (d : Dm w D p) (hn : n ≤ 1000000) (rs : RnI w A n R) (el : ∀ k, k < n → ElR w (R k) (S k) (b k)) (rf : Ri w B m F) (hm : m ≤ 1000000)
    (hls : ∀ k, k < n → b k = true → len (mgD (S k)).m ≤ 140) :
    Calls Tryz.prog 50 #[dgv D p, .slice A n c, .slice B m e] w fun e w' => e = .returned (.tuple #[.bool (ftV D.nb n b S F m), I (ftE D.nb n b m)]) ∧ Ext w w' := by
  have lb := d.lb
  unfold maxLen at lb
  obtain ⟨W1, hW1⟩ : ∃ W1, W1 = w.alloc (.cells #[.slice p.AI D.ni p.cI, .slice p.AB D.nb p.cB, .slice p.AO D.no p.cO] 26) := ⟨_, rfl⟩
  have hE : Ext w W1 := by rw [hW1]; exact Ext.alloc _ _
  have hbd : Bd W1 w.heap.size D p := by rw [hW1]; exact Bd.new _ _ _ _
  have HBX : Hid (∀ w', Ext W1 w' → w'.cell? ⟨w.heap.size, 0, none⟩ = some (.slice p.AI D.ni p.cI) ∧ w'.cell? ⟨w.heap.size, 1, none⟩ = some (.slice p.AB D.nb p.cB) ∧ w'.cell? ⟨w.heap.size, 2, none⟩ = some (.slice p.AO D.no p.cO)) := fun w' e => by
    have a := hbd.ext e; exact ⟨a.c0, a.c1, a.c2⟩
  have HCK : Hid (∀ w', Ext W1 w' → Calls Tryz.prog 110 #[dgv D p, .slice A n c] w' fun e w'' => e = .returned (I (rgE D.nb n b)) ∧ Ext w' w'') := fun w' e => rCheck13_any (d.ext (hE.trans e)) hn (rs.ext (hE.trans e)) fun k hk => (el k hk).ext (hE.trans e)
  have HE := Lib.hid hE
  have HRF := Lib.hid (rf.ext hE)
  have HRS := Lib.hid (rs.ext hE)
  have HEL : Hid (∀ k, k < n → ElR W1 (R k) (S k) (b k)) := fun k hk => (el k hk).ext hE
  have HLS := Lib.hid hls
  obtain ⟨c0, c1, c2⟩ := HBX.out _ (Ext.refl _)
  obtain ⟨v, hv⟩ : ∃ v, ftV D.nb n b S F m = v := ⟨_, rfl⟩
  obtain ⟨k, hk⟩ : ∃ k, ftE D.nb n b m = k := ⟨_, rfl⟩
  have HV := Lib.hid hv; have HK := Lib.hid hk
  rw [hv, hk]
  clear d rs el hE hbd rf hls hv hk
  by_cases hr : rgE D.nb n b ≠ 0
  · have HR : Hid (rgE D.nb n b = k) := by show _ = _; rw [← HK.out, ftE_r hr]
    have HF : Hid (v = false) := by show _ = _; rw [← HV.out]; unfold ftV; rw [if_neg (by rw [ftE_r hr]; exact hr)]
    have hr' : (rgE D.nb n b != 0) = true := by simpa using hr
    clear hr
    generalize rgE D.nb n b = q at *
    go_enter Tryz.func50, Tryz.ntmps50
    go_upto_region 1 with fail
    rw [← hW1]; clear hW1
    go_wp2_with (go_at_call 110; (with_reducible refine (HCK.out _ (Ext.refl _)).mono ?_); rintro e1 w1 ⟨rfl, h1⟩)
    go_ret2
    exact ⟨by rw [HR.out, HF.out]; rfl, HE.out.trans h1⟩
  have hr0 : rgE D.nb n b = 0 := by omega
  have HR0 := Lib.hid hr0
  rw [hr0] at HCK
  clear hr hr0
  by_cases hmn : m ≠ D.nb
  · have HR : Hid (k = 11) := by show _ = _; rw [← HK.out, ftE_m HR0.out hmn]
    have HF : Hid (v = false) := by show _ = _; rw [← HV.out]; unfold ftV; rw [if_neg (by rw [ftE_m HR0.out hmn]; decide)]
    have hq1 : ((m : Int) != (D.nb : Int)) = true := by simp; omega
    clear hmn
    go_enter Tryz.func50, Tryz.ntmps50
    go_upto_region 1 with fail
    rw [← hW1]; clear hW1
    go_wp2_with (go_at_call 110; (with_reducible refine (HCK.out _ (Ext.refl _)).mono ?_); rintro e1 w1 ⟨rfl, h1⟩; clear c0 c1 c2; obtain ⟨c0, c1, c2⟩ := HBX.out _ h1)
    go_ret2
    exact ⟨by rw [HR.out, HF.out]; rfl, HE.out.trans h1⟩
  have hq1 : ((m : Int) != (D.nb : Int)) = false := by simp; omega
  have hmn2 : m = D.nb := by omega
  obtain ⟨hn1, hbt⟩ := rgE_z HR0.out
  have HMN : Hid (m = n) := by show _ = _; omega
  have HBT := Lib.hid hbt
  have HKZ : Hid (k = 0) := by show _ = _; rw [← HK.out, ftE_z HR0.out hmn2]
  have HVF : Hid (ftB S F n = v) := by show _ = _; rw [← HV.out]; unfold ftV; rw [if_pos (ftE_z HR0.out hmn2)]
  clear hmn hmn2 hn1 hbt
  go_enter Tryz.func50, Tryz.ntmps50
  go_upto_region 1 with fail
  rw [← hW1]; clear hW1
  go_upto_region 6 with (go_at_call 110; (with_reducible refine (HCK.out _ (Ext.refl _)).mono ?_); rintro e1 w1 ⟨rfl, h1⟩; clear c0 c1 c2; obtain ⟨c0, c1, c2⟩ := HBX.out _ h1)
  have HX1 := Lib.hid h1
  clear c0 c1 c2 hq1 h1
  go_wp2_with fail
  go_loopw [25] (fun s wr => ∃ (j : Nat), j ≤ n ∧ s = I j ∧ Hid (∀ i, i < j → fitK S F i = true) ∧ Hid (Ext w1 wr)) (fun s _ => n - (intOf s).toNat)
  case atStart => exact ⟨0, Nat.zero_le _, rfl, fun i hi => absurd hi (by omega), Ext.refl _⟩
  case round =>
    obtain ⟨j, hj, rfl, HB, H⟩ := hrel
    by_cases hlt : j < n
    · have hX := HX1.out.trans H.out
      obtain ⟨bb, oo, hba, hbb, hc⟩ := HRS.out.ext hX (by omega)
      obtain ⟨x0, x1, x2, x3, x4, x5⟩ := hc j hlt
      have cn := ((HEL.out j hlt).ext hX).cn (HBT.out j hlt)
      have hls := HLS.out j hlt (HBT.out j hlt)
      have hjm : j < m := by have := HMN.out; omega
      obtain ⟨bf, of, hbf, hbl, hcf⟩ := HRF.out.ext hX (by omega)
      have xf := hcf j hjm
      have hlt' : (j : Int) < (n : Int) := by omega
      have hjm' : (j : Int) < (m : Int) := by omega
      obtain ⟨W2, hW2⟩ : ∃ W2, W2 = wr.alloc (.cells #[.bool (R j).lo.neg, .slice (R j).lo.A (R j).lo.n (R j).lo.c, I (R j).lo.den, .bool (R j).hi.neg, .slice (R j).hi.A (R j).hi.n (R j).hi.c, I (R j).hi.den] 58) := ⟨_, rfl⟩
      have hE2 : Ext wr W2 := by rw [hW2]; exact Ext.alloc _ _
      have hb2 : B6 W2 wr.heap.size (.bool (R j).lo.neg) (.slice (R j).lo.A (R j).lo.n (R j).lo.c) (I (R j).lo.den) (.bool (R j).hi.neg) (.slice (R j).hi.A (R j).hi.n (R j).hi.c) (I (R j).hi.den) := by rw [hW2]; exact B6.new _ _ _ _ _ _ _ _
      have hl2 := hb2.lt
      have hbl2 : bf < W2.heap.size := Nat.lt_of_lt_of_le hbl hE2.size
      have xf2 := (hE2.old.1 _ _ hbl).trans xf
      have HAM : Hid (∀ w' (x : Int), Ext W2 w' → 0 ≤ x → x ≤ 30 → Calls Tryz.prog 111 #[(R j).v, I x, I 2147483647] w' fun e w'' => e = .returned (.bool (fitB (mgD (S j)) x 2147483647)) ∧ Ext w' w'') := fun w' x e h0 h1 =>
        rRoom_any x 2147483647 (cn.ext (hE2.trans e)) hls ⟨by omega, by omega⟩ ⟨by omega, by omega⟩
      have HFK : Hid (fitK S F j = (decide (0 ≤ F j) && (decide (F j ≤ 30) && fitB (mgD (S j)) (F j) 2147483647))) := rfl
      have HNO : Hid (fitK S F j = false → v = false) := fun h => by rw [← HVF.out]; exact allN_false.2 ⟨j, hlt, h⟩
      have HYE : Hid (fitK S F j = true → ∀ i, i < j + 1 → fitK S F i = true) := fun h i hi => by
        by_cases e : i = j
        · subst e; exact h
        · exact HB.out i (by omega)
      have HX := Lib.hid (H.out.trans hE2)
      obtain ⟨⟨k0, k1, k2, k3, k4, k5⟩, _⟩ := hb2
      clear hc hcf xf hjm hE2 hbl hls hX
      rw [hbf] at *
      generalize F j = x at *
      generalize mgD (S j) = mj at *
      generalize R j = rj at *
      obtain ⟨⟨n1, A1, l1, e1', d1⟩, ⟨n2, A2, l2, e2', d2⟩⟩ := rj
      simp only at hW2 x0 x1 x2 x3 x4 x5 k0 k1 k2 k3 k4 k5 HAM
      have hb : Ext W2 W2 := Ext.refl _
      clear cn
      by_cases p1 : x < 0
      · have p1' : decide (x < 0) = true := decide_eq_true p1
        have HV2 := Lib.hid (HNO.out (by rw [HFK.out, decide_eq_false (show ¬ 0 ≤ x by omega)]; rfl))
        clear HAM HFK HNO HYE
        go_upto_region 9 with fail
        rw [← hW2]; clear hW2
        have hL := fun (x : Later _) => (Ext.trans hb x.ext).old.1
        refine wp_region_later (by kernel_rfl) (by kernel_rfl) ?_
        repeat (go_big_quiet_step (fail))
        refine wpQuiet_nil ?_
        intro w2 hw2
        replace hb := Ext.trans hb (Later.of hw2)
        clear hw2 hL
        obtain ⟨hc, hf⟩ := hb.old
        go_wp2_with fail
        go_ret2
        exact ⟨by rw [HV2.out, HKZ.out]; rfl, HE.out.trans (HX1.out.trans (HX.out.trans hb))⟩
      have p1' : decide (x < 0) = false := decide_eq_false p1
      by_cases p2 : 30 < x
      · have p2' : decide (30 < x) = true := decide_eq_true p2
        have HV2 := Lib.hid (HNO.out (by rw [HFK.out, decide_eq_false (show ¬ x ≤ 30 by omega)]; simp))
        clear HAM HFK HNO HYE
        go_upto_region 9 with fail
        rw [← hW2]; clear hW2
        have hL := fun (x : Later _) => (Ext.trans hb x.ext).old.1
        refine wp_region_later (by kernel_rfl) (by kernel_rfl) ?_
        repeat (go_big_quiet_step (fail))
        refine wpQuiet_nil ?_
        intro w2 hw2
        replace hb := Ext.trans hb (Later.of hw2)
        clear hw2 hL
        obtain ⟨hc, hf⟩ := hb.old
        go_wp2_with fail
        go_ret2
        exact ⟨by rw [HV2.out, HKZ.out]; rfl, HE.out.trans (HX1.out.trans (HX.out.trans hb))⟩
      have p2' : decide (30 < x) = false := decide_eq_false p2
      have HAM2 : Hid (∀ w', Ext W2 w' → Calls Tryz.prog 111 #[iv n1 A1 l1 e1' d1 n2 A2 l2 e2' d2, I x, I 2147483647] w' fun e w'' => e = .returned (.bool (fitB mj x 2147483647)) ∧ Ext w' w'') := fun w' e => HAM.out w' x e (by omega) (by omega)
      have HFK2 : Hid (fitK S F j = fitB mj x 2147483647) := by show _ = _; rw [HFK.out, decide_eq_true (show 0 ≤ x by omega), decide_eq_true (show x ≤ 30 by omega)]; rfl
      clear HAM HFK
      generalize fitB mj x 2147483647 = f at *
      cases f with
      | false =>
        have HV2 := Lib.hid (HNO.out HFK2.out)
        clear HNO HYE HFK2
        go_upto_region 9 with fail
        rw [← hW2]; clear hW2
        have hL := fun (x : Later _) => (Ext.trans hb x.ext).old.1
        refine wp_region_later (by kernel_rfl) (by kernel_rfl) ?_
        repeat (go_big_quiet_step ((go_at_call 111; with_reducible exact Calls.later (HAM2.out _ (Later.ext _)))))
        refine wpQuiet_nil ?_
        intro w2 hw2
        replace hb := Ext.trans hb (Later.of hw2)
        clear hw2 hL
        obtain ⟨hc, hf⟩ := hb.old
        go_wp2_with fail
        go_ret2
        exact ⟨by rw [HV2.out, HKZ.out]; rfl, HE.out.trans (HX1.out.trans (HX.out.trans hb))⟩
      | true =>
        have HY2 := Lib.hid (HYE.out HFK2.out)
        clear HNO HYE HFK2
        go_upto_region 9 with fail
        rw [← hW2]; clear hW2
        have hL := fun (x : Later _) => (Ext.trans hb x.ext).old.1
        refine wp_region_later (by kernel_rfl) (by kernel_rfl) ?_
        repeat (go_big_quiet_step ((go_at_call 111; with_reducible exact Calls.later (HAM2.out _ (Later.ext _)))))
        refine wpQuiet_nil ?_
        intro w2 hw2
        replace hb := Ext.trans hb (Later.of hw2)
        clear hw2 hL
        obtain ⟨hc, hf⟩ := hb.old
        go_wp2_with fail
        (try rw [← hbf])
        (try rw [← hba])
        go_roundw
        case rel => exact ⟨j + 1, by omega, by go_num, HY2, HX.out.trans hb⟩
        case measure => simp [intOf]; omega
    · obtain rfl : j = n := by omega
      have HV2 : Hid (v = true) := by show _ = _; rw [← HVF.out]; exact allN_iff.2 HB.out
      go_wp2_with fail
      go_ret2
      exact ⟨by rw [HV2.out, HKZ.out]; rfl, HE.out.trans (HX1.out.trans H.out)⟩
/-- The number of shifts, or the number of an error. -/
def shE (nb m : Nat) : Int := if m ≠ nb then 11 else 0
def shV (D : Dia) (F : Nat → Int) (m : Nat) : Nat := if m ≠ D.nb then 0 else shN D F D.nb
set_option maxRecDepth 100000 in
set_option maxHeartbeats 4000000 in
theorem rShifts_any {w : World} {D : Dia} {p : Pl} {B : Option Addr} {m e : Nat} {F : Nat → Int} (d : Dm w D p) (ok : OkD D) (hm : m ≤ 1000000) (rf : Ri w B m F) : Calls Tryz.prog 51 #[dgv D p, .slice B m e] w fun e w' => e = .returned (.tuple #[I (shV D F m : Nat), I (shE D.nb m)]) ∧ Ext w w' := by
  obtain ⟨W1, hW1⟩ : ∃ W1, W1 = w.alloc (.cells #[.slice p.AI D.ni p.cI, .slice p.AB D.nb p.cB, .slice p.AO D.no p.cO] 26) := ⟨_, rfl⟩
  have hE : Ext w W1 := by rw [hW1]; exact Ext.alloc _ _
  have hbd : Bd W1 w.heap.size D p := by rw [hW1]; exact Bd.new _ _ _ _
  have HBX : Hid (∀ w', Ext W1 w' → w'.cell? ⟨w.heap.size, 0, none⟩ = some (.slice p.AI D.ni p.cI) ∧ w'.cell? ⟨w.heap.size, 1, none⟩ = some (.slice p.AB D.nb p.cB) ∧ w'.cell? ⟨w.heap.size, 2, none⟩ = some (.slice p.AO D.no p.cO)) := fun w' e => by
    have a := hbd.ext e; exact ⟨a.c0, a.c1, a.c2⟩
  have hl0 : w.heap.size < W1.heap.size := by rw [hW1]; simp
  have HRF := Lib.hid (rf.ext hE); have HD := Lib.hid (d.ext hE); have OK := Lib.hid ok
  have HE := Lib.hid hE
  have hnb := ok.nb
  obtain ⟨c0, c1, c2⟩ := HBX.out _ (Ext.refl _)
  clear d rf hE hbd ok
  unfold shV shE
  by_cases hmn : m ≠ D.nb
  · rw [if_pos hmn, if_pos hmn]
    have hq1 : ((m : Int) != (D.nb : Int)) = true := by simp; omega
    clear hmn
    go_enter Tryz.func51, Tryz.ntmps51
    go_upto_region 1 with fail
    rw [← hW1]; clear hW1
    go_wp2_with fail
    go_ret2
    exact ⟨rfl, HE.out⟩
  rw [if_neg hmn, if_neg hmn]
  have hq1 : ((m : Int) != (D.nb : Int)) = false := by simp; omega
  have HMN : Hid (m = D.nb) := by show _ = _; omega
  clear hmn
  go_enter Tryz.func51, Tryz.ntmps51
  go_upto_region 1 with fail
  rw [← hW1]; clear hW1
  go_wp2_with fail
  clear c0 c1 c2 hq1
  go_loopw [6, 20] (fun s7 s wr => ∃ (i c : Nat), i ≤ D.nb ∧ s = I i ∧ s7 = I c ∧ Hid (shN D F i = c) ∧ Hid (Ext W1 wr)) (fun _ s _ => D.nb - (intOf s).toNat)
  case atStart => exact ⟨0, 0, Nat.zero_le _, rfl, rfl, rfl, Ext.refl _⟩
  case round =>
    obtain ⟨i, c, hi, rfl, rfl, HC, H⟩ := hrel
    by_cases hlt : i < D.nb
    · have dd := HD.out.ext H.out
      obtain ⟨bb, ob, hab, hbb, hcb⟩ := dd.blocks (by omega)
      obtain ⟨x0, x1, x2, x3, x4, x5⟩ := hcb i hlt
      have hn2 := (OK.out.toWF.ns2 hlt).2
      have hlt' : (i : Int) < (D.nb : Int) := by omega
      have hc2 : c ≤ 2 * i := by rw [← HC.out]; exact shN_le OK.out.toWF F i (by omega)
      have hag := OK.out.arg i hlt
      clear hcb dd
      obtain ⟨wo, hwo⟩ : ∃ wo, wo = wr := ⟨_, rfl⟩
      subst hwo
      obtain ⟨W2, hW2⟩ : ∃ W2, W2 = wo.alloc (.cells #[I (D.B i).k, .slice (p.AA i) (D.B i).n (p.cA i), I (D.B i).vn, I (D.B i).ve, I (D.B i).un, I (D.B i).ue] 79) := ⟨_, rfl⟩
      have hE2 : Ext wo W2 := by rw [hW2]; exact Ext.alloc _ _
      have hb2 : B6 W2 wo.heap.size (I (D.B i).k) (.slice (p.AA i) (D.B i).n (p.cA i)) (I (D.B i).vn) (I (D.B i).ve) (I (D.B i).un) (I (D.B i).ue) := by rw [hW2]; exact B6.new _ _ _ _ _ _ _ _
      have HB2 := Lib.hid hb2
      obtain ⟨⟨k0, k1, k2, k3, k4, k5⟩, _⟩ := hb2
      have HX2 := Lib.hid (H.out.trans hE2)
      have HAR := Lib.hid (((HD.out.ext HX2.out).args i hlt).1)
      have him : i < m := by have := HMN.out; omega
      have HDF : Hid (∀ j, dif D F i j = !((if (D.B i).k = 0 then (D.P (sr D i j)).fr else F (sr D i j)) == F i)) := fun j => rfl
      have HCN : Hid (shN D F (i + 1) = c + cnt (D.B i).n (dif D F i)) := by show _ = _; rw [← HC.out]; rfl
      have hmi : (i : Int) < (m : Int) := by omega
      have HRF2 := Lib.hid (HRF.out.ext HX2.out)
      have HAG : Hid (∀ j, j < (D.B i).n → (D.B i).a j = (sr D i j : Int) ∧ (if (D.B i).k = 0 then sr D i j < D.ni else sr D i j < m)) := fun j hj => by
        have q := hag j hj
        have hmm := HMN.out
        unfold sr cntB at *
        by_cases z : (D.B i).k = 0
        · rw [if_pos z] at q ⊢; omega
        · rw [if_neg z] at q ⊢; omega
      clear hE2 hag
      generalize (D.B i).k = bk at *
      generalize (D.B i).vn = bvn at *
      generalize (D.B i).ve = bve at *
      generalize (D.B i).un = bun at *
      generalize (D.B i).ue = bue at *
      generalize (D.B i).n = bn at *
      generalize (D.B i).a = ba at *
      go_upto_region 7 with fail
      rw [← hW2]; clear hW2 x0 x1 x2 x3 x4 x5
      have HAB := Lib.hid hab; clear hab
      go_wp2_with fail
      clear k0 k1 k2 k3 k4 k5
      go_loopw [6, 28] (fun s7 s wr => ∃ (j q : Nat), j ≤ bn ∧ s = I j ∧ s7 = I (c + q : Nat) ∧ q ≤ j ∧ Hid (cnt j (dif D F i) = q) ∧ Hid (Ext W2 wr)) (fun _ s _ => bn - (intOf s).toNat)
      case atStart => exact ⟨0, 0, Nat.zero_le _, rfl, rfl, Nat.le_refl _, rfl, Ext.refl _⟩
      case round =>
        obtain ⟨j, q, hj, rfl, rfl, hqj, HQ, HW⟩ := hrel
        by_cases hjl : j < bn
        · obtain ⟨bA, oA, hA, hbA, hcA⟩ := HAR.out.ext HW.out (by omega)
          have xa := hcA j hjl
          obtain ⟨hay, hin⟩ := HAG.out j hjl
          obtain ⟨bf, of, hbf, hbl, hcf⟩ := HRF2.out.ext HW.out (by omega)
          have xf := hcf i him
          obtain ⟨⟨k0, k1, k2, k3, k4, k5⟩, _⟩ := HB2.out.ext HW.out
          obtain ⟨c0, c1, c2⟩ := HBX.out _ (HX2.out.trans HW.out)
          have hjl' : (j : Int) < (bn : Int) := by omega
          have hz0 : w.heap.size < wr.heap.size := by have := HX2.out.size; have := HW.out.size; omega
          have hz1 : wo.heap.size < wr.heap.size := by have := (HB2.out.ext HW.out).lt; omega
          have HDJ := Lib.hid (HDF.out j)
          have HQ2 : Hid (cnt (j + 1) (dif D F i) = q + if dif D F i j = true then 1 else 0) := by show _ = _; rw [← HQ.out]; rfl
          have hb : Ext wr wr := Ext.refl _
          rw [hay] at xa
          obtain ⟨y, hy⟩ : ∃ y, sr D i j = y := ⟨_, rfl⟩
          rw [hy] at xa hin HDJ
          clear hy hay hcA
          rw [hA] at *
          by_cases hkz : bk = 0
          · subst hkz
            rw [if_pos rfl] at hin HDJ
            obtain ⟨bp, op, hp, hbp, hcp⟩ := ((HD.out.ext HX2.out).ext HW.out).ports (by omega)
            have yx := (hcp y hin).2.2
            have hyn : (y : Int) < (D.ni : Int) := by omega
            rw [hp] at c0
            rw [hbf] at *
            clear hcp hcf hin hp
            generalize (D.P y).fr = av at *
            generalize F i = fi at *
            by_cases hne : av = fi
            · have hne1 : (av != fi) = false := by simp [hne]
              have HQ3 : Hid (cnt (j + 1) (dif D F i) = q) := by show _ = _; rw [HQ2.out, HDJ.out]; simp [hne]
              clear hne HQ2 HDJ
              go_upto_region 10 with fail
              have hL := fun (x : Later _) => (Ext.trans hb x.ext).old.1
              refine wp_region_later (by kernel_rfl) (by kernel_rfl) ?_
              repeat (go_big_quiet_step (fail))
              refine wpQuiet_nil ?_
              intro w2 hw2
              replace hb := Ext.trans hb (Later.of hw2)
              clear hw2 hL
              obtain ⟨hc, hf⟩ := hb.old
              go_wp2_with fail
              (try rw [← hA])
              (try rw [← hbf])
              go_roundw
              case rel => exact ⟨j + 1, q, by omega, by go_num, rfl, by omega, HQ3, HW.out.trans hb⟩
              case measure => simp [intOf]; omega
            · have hne1 : (av != fi) = true := by simp [hne]
              have HQ3 : Hid (cnt (j + 1) (dif D F i) = q + 1) := by show _ = _; rw [HQ2.out, HDJ.out]; simp [hne]
              clear hne HQ2 HDJ
              go_upto_region 10 with fail
              have hL := fun (x : Later _) => (Ext.trans hb x.ext).old.1
              refine wp_region_later (by kernel_rfl) (by kernel_rfl) ?_
              repeat (go_big_quiet_step (fail))
              refine wpQuiet_nil ?_
              intro w2 hw2
              replace hb := Ext.trans hb (Later.of hw2)
              clear hw2 hL
              obtain ⟨hc, hf⟩ := hb.old
              go_wp2_with fail
              (try rw [← hA])
              (try rw [← hbf])
              go_roundw
              case rel => exact ⟨j + 1, q + 1, by omega, by go_num, by go_num, by omega, HQ3, HW.out.trans hb⟩
              case measure => simp [intOf]; omega
          · have hkz1 : (bk == 0) = false := by simpa using hkz
            have hkz2 : (bk != 0) = true := by simpa using hkz
            rw [if_neg hkz] at hin HDJ
            have yf := hcf y hin
            have hyn : (y : Int) < (m : Int) := by omega
            rw [hbf] at *
            clear hcf hin hkz
            generalize F y = av at *
            generalize F i = fi at *
            by_cases hne : av = fi
            · have hne1 : (av != fi) = false := by simp [hne]
              have HQ3 : Hid (cnt (j + 1) (dif D F i) = q) := by show _ = _; rw [HQ2.out, HDJ.out]; simp [hne]
              clear hne HQ2 HDJ
              go_upto_region 10 with fail
              have hL := fun (x : Later _) => (Ext.trans hb x.ext).old.1
              refine wp_region_later (by kernel_rfl) (by kernel_rfl) ?_
              repeat (go_big_quiet_step (fail))
              refine wpQuiet_nil ?_
              intro w2 hw2
              replace hb := Ext.trans hb (Later.of hw2)
              clear hw2 hL
              obtain ⟨hc, hf⟩ := hb.old
              go_wp2_with fail
              (try rw [← hA])
              (try rw [← hbf])
              go_roundw
              case rel => exact ⟨j + 1, q, by omega, by go_num, rfl, by omega, HQ3, HW.out.trans hb⟩
              case measure => simp [intOf]; omega
            · have hne1 : (av != fi) = true := by simp [hne]
              have HQ3 : Hid (cnt (j + 1) (dif D F i) = q + 1) := by show _ = _; rw [HQ2.out, HDJ.out]; simp [hne]
              clear hne HQ2 HDJ
              go_upto_region 10 with fail
              have hL := fun (x : Later _) => (Ext.trans hb x.ext).old.1
              refine wp_region_later (by kernel_rfl) (by kernel_rfl) ?_
              repeat (go_big_quiet_step (fail))
              refine wpQuiet_nil ?_
              intro w2 hw2
              replace hb := Ext.trans hb (Later.of hw2)
              clear hw2 hL
              obtain ⟨hc, hf⟩ := hb.old
              go_wp2_with fail
              (try rw [← hA])
              (try rw [← hbf])
              go_roundw
              case rel => exact ⟨j + 1, q + 1, by omega, by go_num, by go_num, by omega, HQ3, HW.out.trans hb⟩
              case measure => simp [intOf]; omega
        · obtain rfl : j = bn := by omega
          have HC2 : Hid (shN D F (i + 1) = c + q) := by show _ = _; rw [HCN.out, HQ.out]
          go_wp2_with fail
          (try rw [← HAB.out])
          go_roundw
          case rel => exact ⟨i + 1, c + q, by omega, by go_num, rfl, HC2, HX2.out.trans HW.out⟩
          case measure => simp [intOf]; omega
    · obtain rfl : i = D.nb := by omega
      go_wp2_with fail
      go_ret2
      exact ⟨by rw [HC.out]; rfl, HE.out.trans H.out⟩
end Go.Proofs.YtgnngldlgcdnfaaGreatDoor

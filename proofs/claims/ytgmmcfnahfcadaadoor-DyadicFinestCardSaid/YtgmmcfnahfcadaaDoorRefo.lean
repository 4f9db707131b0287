/- The reference's Shift. -/
import Derived.Test.YtgmmcfnahfcadaaDoorRefm
import Derived.Test.YtgmmcfnahfcadaaDoorRefh
import Derived.Test.YtgmmcfnahfcadaaDoorDyj
import Derived.Deep.RegionHeld3
import Derived.Deep.DeepCutAuto
namespace Go.Proofs.YtgmmcfnahfcadaaDoor
open Go.RowKit

theorem rnumber_I (neg : Bool) (A : Option Addr) (c m : Nat) (x : Int) (k : Nat) (w : World) (d' : DV) (hd : mkD neg m k = d') (hx : x = (k : Int)) (ha : Rd w A (len m) (dg m)) (oa : SlOk A (len m) c) (hn : len m ≤ 33554432) (hk : k ≤ 1073741824) :
    Calls Tryd.prog 82 #[.bool neg, .slice A (len m) c, I x] w (DyRes d' w) := by
  subst hx; rw [← hd]; exact rnumber_of neg A c k m w ha oa hn hk
theorem rleft_I (A : Option Addr) (m ca : Nat) (x : Int) (n : Nat) (w : World) (hx : x = (n : Int)) (ha : Rd w A (len m) (dg m)) (hL : len m ≤ 1073741824) (hn : n ≤ 1073741824) :
    Calls Tryd.prog 81 #[.slice A (len m) ca, I x] w (NatRes (m * 2 ^ n) w) := by
  subst hx; exact rleft_any A m n ca w ha hL hn
theorem shiftD_neg {d : DV} {s : Int} {K : Nat} (h : clampN s < 0) (hK : d.den + (-clampN s).toNat = K) : shiftD d s = mkD d.neg d.m K := by unfold shiftD; rw [if_pos h, hK]
theorem shiftD_pos {d : DV} {s : Int} {K : Nat} (h : 0 ≤ clampN s) (hK : (clampN s).toNat = K) : shiftD d s = mkD d.neg (d.m * 2 ^ K) d.den := by unfold shiftD; rw [if_neg (by omega), hK]
theorem clamp_lo {s : Int} (h : s < -65536) : clampN s = -65536 := by unfold clampN; omega
theorem clamp_hi {s : Int} (h : 65536 < s) : clampN s = 65536 := by unfold clampN; omega
theorem clamp_in {s : Int} (h : -65536 ≤ s) (h2 : s ≤ 65536) : clampN s = s := by unfold clampN; omega

set_option maxRecDepth 100000 in
set_option maxHeartbeats 1000000 in
theorem rshift_any2 {w : World} {neg : Bool} {A A' : Option Addr} {n c c' : Nat} {den : Int} {d : DV} (s : Int) (h : Dy w neg A n c den d A' c') (hs1 : -9223372036854775808 ≤ s) (hs2 : s ≤ 9223372036854775807) : Calls Tryd.prog 43 #[dv neg A n c den, I s] w (DyRes (shiftD d s) w) := by
  have H := Lib.hid h; clear h
  have hd1 := H.out.wf.2.1
  have hl1 := H.out.lim
  obtain ⟨d', hd'⟩ : ∃ d', shiftD d s = d' := ⟨_, rfl⟩
  rw [hd']
  have h3 : s < -65536 ∨ 65536 < s ∨ (-65536 ≤ s ∧ s < 0) ∨ (0 ≤ s ∧ s ≤ 65536) := by omega
  have h5 : clampN s < 0 ∨ 0 ≤ clampN s := by omega
  rcases h5 with h5 | h5
  · obtain ⟨K, hK⟩ : ∃ K, d.den + (-clampN s).toNat = K := ⟨_, rfl⟩
    have HD' : Hid (mkD d.neg d.m K = d') := by show _ = _; rw [← hd']; exact (shiftD_neg h5 hK).symm
    have hK2 : (K : Int) = d.den - clampN s ∧ K ≤ 131072 := by unfold clampN at *; omega
    obtain ⟨hK2, hK3⟩ := hK2
    clear hd' hK
    rcases h3 with h3 | h3 | ⟨h3, h4⟩ | ⟨h3, h4⟩
    · rw [clamp_lo h3] at hK2
      clear h5
      go_enter Tryd.func43, Tryd.ntmps43
      go_wp2_with (go_at_call 15; refine (H.out.norm _ ((Ext.alloc _ _).trans (Ext.alloc _ _))).mono ?_; rintro e w1 ⟨rfl, hx⟩; obtain ⟨⟨k0, k1, k2⟩, s1, hz, hx1⟩ := two_boxes hx; have S1 := Lib.hid s1; have HX := Lib.hid hx1; obtain ⟨hc, hf⟩ := hx.old; clear hx hx1 s1)
      have HW := Lib.hid (ext_set3 HX.out (Nat.le_refl _))
      (with_reducible refine (rnumber_I d.neg A' c' d.m _ K _ d' HD'.out (by omega) (H.out.rd.ext (HW.out _ _ _)) H.out.sl (by omega) (by omega)).mono ?_)
      rintro e w2 ⟨A2, c2, rfl, hon, hx⟩
      obtain ⟨r0, r1, r2⟩ := (S1.out.far3 (by omega) _ _ _).ext hx
      obtain ⟨hc2, hf2⟩ := hx.old
      have HX2 := Lib.hid ((HW.out _ _ _).trans hx)
      have HO := Lib.hid hon
      clear hon hx
      go_wp2_with fail
      exact bodyPost_ret (v := dv d'.neg A2 (len d'.m) c2 d'.den) (by simp [results, Tryd.results43, go_sem, r0, r1, r2]) rfl (DyRes.end3 rfl HO.out HX2.out (by simp; omega) (by omega) (by simp; omega))
    · exfalso; rw [clamp_hi h3] at h5; omega
    · rw [clamp_in h3 (by omega)] at hK2
      clear h5
      go_enter Tryd.func43, Tryd.ntmps43
      go_wp2_with (go_at_call 15; refine (H.out.norm _ ((Ext.alloc _ _).trans (Ext.alloc _ _))).mono ?_; rintro e w1 ⟨rfl, hx⟩; obtain ⟨⟨k0, k1, k2⟩, s1, hz, hx1⟩ := two_boxes hx; have S1 := Lib.hid s1; have HX := Lib.hid hx1; obtain ⟨hc, hf⟩ := hx.old; clear hx hx1 s1)
      all_goals
        have HW := Lib.hid (ext_set3 HX.out (Nat.le_refl _))
        (with_reducible refine (rnumber_I d.neg A' c' d.m _ K _ d' HD'.out (by omega) (H.out.rd.ext (HW.out _ _ _)) H.out.sl (by omega) (by omega)).mono ?_)
        rintro e w2 ⟨A2, c2, rfl, hon, hx⟩
        obtain ⟨r0, r1, r2⟩ := (S1.out.far3 (by omega) _ _ _).ext hx
        obtain ⟨hc2, hf2⟩ := hx.old
        have HX2 := Lib.hid ((HW.out _ _ _).trans hx)
        have HO := Lib.hid hon
        clear hon hx
        go_wp2_with fail
        exact bodyPost_ret (v := dv d'.neg A2 (len d'.m) c2 d'.den) (by simp [results, Tryd.results43, go_sem, r0, r1, r2]) rfl (DyRes.end3 rfl HO.out HX2.out (by simp; omega) (by omega) (by simp; omega))
    · exfalso; rw [clamp_in (by omega) h4] at h5; omega
  · obtain ⟨K, hK⟩ : ∃ K, (clampN s).toNat = K := ⟨_, rfl⟩
    have hK2 : (K : Int) = clampN s ∧ K ≤ 65536 := by unfold clampN at *; omega
    obtain ⟨hK2, hK3⟩ := hK2
    obtain ⟨P, hP⟩ : ∃ P, d.m * 2 ^ K = P := ⟨_, rfl⟩
    have HD' : Hid (mkD d.neg P d.den = d') := by show _ = _; rw [← hd', ← hP]; exact (shiftD_pos h5 hK).symm
    have hPl : len P ≤ 33554432 := by have := len_shl d.m K; rw [hP] at this; omega
    have HP := Lib.hid hP
    clear hd' hK hP
    rcases h3 with h3 | h3 | ⟨h3, h4⟩ | ⟨h3, h4⟩
    · exfalso; rw [clamp_lo h3] at h5; omega
    · rw [clamp_hi h3] at hK2
      clear h5
      go_enter Tryd.func43, Tryd.ntmps43
      go_wp2_with (go_at_call 15; refine (H.out.norm _ ((Ext.alloc _ _).trans (Ext.alloc _ _))).mono ?_; rintro e w1 ⟨rfl, hx⟩; obtain ⟨s0, s1, hx1⟩ := two_bx hx; have S0 := Lib.hid s0; obtain ⟨⟨k0, k1, k2⟩, kz⟩ := s0; have S1 := Lib.hid s1; have HX := Lib.hid hx1; clear hx hx1 s1)
      have HW := Lib.hid (ext_set3 HX.out (Nat.le_refl _) (.bool d.neg) (.slice A' (len d.m) c') (I d.den))
      have HS0 := Lib.hid (S0.out.set3 (.bool d.neg) (.slice A' (len d.m) c') (I d.den))
      have HS1 := Lib.hid (S1.out.far3 (g' := w.heap.size) (by omega) (.bool d.neg) (.slice A' (len d.m) c') (I d.den))
      clear S0 S1 HX k0 k1 k2 kz
      obtain ⟨⟨k0, k1, k2⟩, kz⟩ := HS0.out
      have hsz := HS1.out.lt
      generalize ((w1.setCell ⟨w.heap.size, 0, none⟩ (.bool d.neg)).setCell ⟨w.heap.size, 1, none⟩ (.slice A' (len d.m) c')).setCell ⟨w.heap.size, 2, none⟩ (I d.den) = W at *
      go_region_held3 (fun w' => w'.cell? ⟨w.heap.size, 0, none⟩ = some (.bool d.neg) ∧ w'.cell? ⟨w.heap.size, 1, none⟩ = some (.slice A' (len d.m) c') ∧ w'.cell? ⟨w.heap.size, 2, none⟩ = some (I d.den)) (go_keep)
        (first
          | (have hg := HX3; clear hg; go_at_call 82; (with_reducible refine (rnumber_of d.neg A1 c1 d.den P _ HO1.out.rd HO1.out.ok hPl (by omega)).mono ?_); rw [HD'.out]; rintro e w4 ⟨A2, c2, rfl, hon, hx⟩; have HO := Lib.hid hon; obtain ⟨⟨r0, r1, r2⟩, rz⟩ := HS1.out.ext (((Ext.drew _).trans HX3.out).trans hx); obtain ⟨⟨y0, y1, y2⟩, yz⟩ := HS0.out.ext (((Ext.drew _).trans HX3.out).trans hx); have HX4 := Lib.hid (((HW.out.trans (Ext.drew _)).trans HX3.out).trans hx); clear hon hx)
          | (go_at_call 81; (with_reducible refine (rleft_I A' d.m c' _ K _ (by omega) (H.out.rd.ext (HW.out.trans (Ext.drew _))) (by omega) (by omega)).mono ?_); rw [HP.out]; rintro e w3 ⟨A1, c1, rfl, hon, hx⟩; have HO1 := Lib.hid hon; obtain ⟨⟨q0, q1, q2⟩, qz⟩ := HS0.out.ext ((Ext.drew _).trans hx); have HX3 := Lib.hid hx; clear hon hx))
      all_goals
        have hs3 := HX3.out.size
        have hs0 : W.drew.heap.size = W.heap.size := rfl
        go_wp2_with fail
        exact bodyPost_ret (v := dv d'.neg A2 (len d'.m) c2 d'.den) (by simp [results, Tryd.results43, go_sem, r0, r1, r2]) rfl (DyRes.end3 rfl HO.out HX4.out (by omega) (by omega) (by omega))
    · exfalso; rw [clamp_in h3 (by omega)] at h5; omega
    · rw [clamp_in (by omega) h4] at hK2
      clear h5
      go_enter Tryd.func43, Tryd.ntmps43
      go_wp2_with (go_at_call 15; refine (H.out.norm _ ((Ext.alloc _ _).trans (Ext.alloc _ _))).mono ?_; rintro e w1 ⟨rfl, hx⟩; obtain ⟨s0, s1, hx1⟩ := two_bx hx; have S0 := Lib.hid s0; obtain ⟨⟨k0, k1, k2⟩, kz⟩ := s0; have S1 := Lib.hid s1; have HX := Lib.hid hx1; clear hx hx1 s1)
      have HW := Lib.hid (ext_set3 HX.out (Nat.le_refl _) (.bool d.neg) (.slice A' (len d.m) c') (I d.den))
      have HS0 := Lib.hid (S0.out.set3 (.bool d.neg) (.slice A' (len d.m) c') (I d.den))
      have HS1 := Lib.hid (S1.out.far3 (g' := w.heap.size) (by omega) (.bool d.neg) (.slice A' (len d.m) c') (I d.den))
      clear S0 S1 HX k0 k1 k2 kz
      obtain ⟨⟨k0, k1, k2⟩, kz⟩ := HS0.out
      have hsz := HS1.out.lt
      generalize ((w1.setCell ⟨w.heap.size, 0, none⟩ (.bool d.neg)).setCell ⟨w.heap.size, 1, none⟩ (.slice A' (len d.m) c')).setCell ⟨w.heap.size, 2, none⟩ (I d.den) = W at *
      go_region_held3 (fun w' => w'.cell? ⟨w.heap.size, 0, none⟩ = some (.bool d.neg) ∧ w'.cell? ⟨w.heap.size, 1, none⟩ = some (.slice A' (len d.m) c') ∧ w'.cell? ⟨w.heap.size, 2, none⟩ = some (I d.den)) (go_keep)
        (first
          | (have hg := HX3; clear hg; go_at_call 82; (with_reducible refine (rnumber_of d.neg A1 c1 d.den P _ HO1.out.rd HO1.out.ok hPl (by omega)).mono ?_); rw [HD'.out]; rintro e w4 ⟨A2, c2, rfl, hon, hx⟩; have HO := Lib.hid hon; obtain ⟨⟨r0, r1, r2⟩, rz⟩ := HS1.out.ext (((Ext.drew _).trans HX3.out).trans hx); obtain ⟨⟨y0, y1, y2⟩, yz⟩ := HS0.out.ext (((Ext.drew _).trans HX3.out).trans hx); have HX4 := Lib.hid (((HW.out.trans (Ext.drew _)).trans HX3.out).trans hx); clear hon hx)
          | (go_at_call 81; (with_reducible refine (rleft_I A' d.m c' _ K _ (by omega) (H.out.rd.ext (HW.out.trans (Ext.drew _))) (by omega) (by omega)).mono ?_); rw [HP.out]; rintro e w3 ⟨A1, c1, rfl, hon, hx⟩; have HO1 := Lib.hid hon; obtain ⟨⟨q0, q1, q2⟩, qz⟩ := HS0.out.ext ((Ext.drew _).trans hx); have HX3 := Lib.hid hx; clear hon hx))
      all_goals
        have hs3 := HX3.out.size
        have hs0 : W.drew.heap.size = W.heap.size := rfl
        go_wp2_with fail
        exact bodyPost_ret (v := dv d'.neg A2 (len d'.m) c2 d'.den) (by simp [results, Tryd.results43, go_sem, r0, r1, r2]) rfl (DyRes.end3 rfl HO.out HX4.out (by omega) (by omega) (by omega))

end Go.Proofs.YtgmmcfnahfcadaaDoor

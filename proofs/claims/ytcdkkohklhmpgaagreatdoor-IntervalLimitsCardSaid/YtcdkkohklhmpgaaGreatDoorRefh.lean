/- The reference's signs. -/
import Derived.Test.YtcdkkohklhmpgaaGreatDoorMreff
import Derived.Test.YtcdkkohklhmpgaaGreatDoorMdyf
namespace Go.Proofs.YtcdkkohklhmpgaaGreatDoor
open Go.RowKit

set_option maxRecDepth 100000 in
set_option maxHeartbeats 1000000 in
theorem rneg_any {w : World} {neg : Bool} {A A' : Option Addr} {n c c' : Nat} {den : Int} {d : DV} (h : Dy w neg A n c den d A' c') : Calls Tryz.prog 85 #[dv neg A n c den] w (DyRes (negD d) w) := by
  have H := Lib.hid h; clear h
  have hd1 := H.out.wf.2.1
  have hl1 := H.out.lim
  obtain ⟨d', hd'⟩ : ∃ d', negD d = d' := ⟨_, rfl⟩
  rw [hd']
  have HD' : Hid (mkD (!d.neg) d.m d.den = d') := hd'
  clear hd'
  go_enter Tryz.func85, Tryz.ntmps85
  go_wp2_with (go_at_call 119; refine (H.out.norm _ ((Ext.alloc _ _).trans (Ext.alloc _ _))).mono ?_; rintro e w1 ⟨rfl, hx⟩; obtain ⟨⟨k0, k1, k2⟩, s1, hz, hx1⟩ := two_boxes hx; have S1 := Lib.hid s1; have HX := Lib.hid hx1; obtain ⟨hc, hf⟩ := hx.old; clear hx hx1 s1)
  have HW := Lib.hid (ext_set3 HX.out (Nat.le_refl _))
  (with_reducible refine (rnumber_at (!d.neg) A' c' d.den d.m _ (H.out.rd.ext (HW.out _ _ _)) H.out.sl (by omega) (by omega)).mono ?_)
  rw [HD'.out]
  rintro e w2 ⟨A2, c2, rfl, hon, hx⟩
  obtain ⟨r0, r1, r2⟩ := (S1.out.far3 (by omega) _ _ _).ext hx
  obtain ⟨hc2, hf2⟩ := hx.old
  have HX2 := Lib.hid ((HW.out _ _ _).trans hx)
  have HO := Lib.hid hon
  clear hon hx
  go_wp2_with fail
  exact bodyPost_ret (v := dv d'.neg A2 (len d'.m) c2 d'.den) (by simp [results, Tryz.results85, go_sem, r0, r1, r2]) rfl (DyRes.end3 rfl HO.out HX2.out (by simp; omega) (by omega) (by simp; omega))

set_option maxRecDepth 100000 in
set_option maxHeartbeats 1000000 in
theorem rabs_any {w : World} {neg : Bool} {A A' : Option Addr} {n c c' : Nat} {den : Int} {d : DV} (h : Dy w neg A n c den d A' c') : Calls Tryz.prog 202 #[dv neg A n c den] w (DyRes (absD d) w) := by
  have H := Lib.hid h; clear h
  have hd1 := H.out.wf.2.1
  have hl1 := H.out.lim
  obtain ⟨d', hd'⟩ : ∃ d', absD d = d' := ⟨_, rfl⟩
  rw [hd']
  have HD' : Hid (mkD false d.m d.den = d') := hd'
  clear hd'
  go_enter Tryz.func202, Tryz.ntmps202
  go_wp2_with (go_at_call 119; refine (H.out.norm _ ((Ext.alloc _ _).trans (Ext.alloc _ _))).mono ?_; rintro e w1 ⟨rfl, hx⟩; obtain ⟨⟨k0, k1, k2⟩, s1, hz, hx1⟩ := two_boxes hx; have S1 := Lib.hid s1; have HX := Lib.hid hx1; obtain ⟨hc, hf⟩ := hx.old; clear hx hx1 s1)
  have HW := Lib.hid (ext_set3 HX.out (Nat.le_refl _))
  (with_reducible refine (rnumber_at false A' c' d.den d.m _ (H.out.rd.ext (HW.out _ _ _)) H.out.sl (by omega) (by omega)).mono ?_)
  rw [HD'.out]
  rintro e w2 ⟨A2, c2, rfl, hon, hx⟩
  obtain ⟨r0, r1, r2⟩ := (S1.out.far3 (by omega) _ _ _).ext hx
  obtain ⟨hc2, hf2⟩ := hx.old
  have HX2 := Lib.hid ((HW.out _ _ _).trans hx)
  have HO := Lib.hid hon
  clear hon hx
  go_wp2_with fail
  exact bodyPost_ret (v := dv d'.neg A2 (len d'.m) c2 d'.den) (by simp [results, Tryz.results202, go_sem, r0, r1, r2]) rfl (DyRes.end3 rfl HO.out HX2.out (by simp; omega) (by omega) (by simp; omega))

set_option maxRecDepth 100000 in
set_option maxHeartbeats 1000000 in
theorem rsign_any {w : World} {neg : Bool} {A A' : Option Addr} {n c c' : Nat} {den : Int} {d : DV} (h : Dy w neg A n c den d A' c') : Calls Tryz.prog 82 #[dv neg A n c den] w fun e w' => e = .returned (I (signD d)) ∧ Ext w w' := by
  have H := Lib.hid h; clear h
  have HN : Hid (∀ w', Ext w w' → Calls Tryz.prog 119 #[dv neg A n c den] w' (NumRes (dv d.neg A' (len d.m) c' d.den) w')) := H.out.norm
  have hl1 := H.out.lim
  by_cases hm : d.m = 0
  · have HR := Lib.hid (sign_0 hm)
    have hl : len d.m = 0 := len_eq_zero.2 hm
    clear hm H
    rw [hl] at HN
    go_enter Tryz.func82, Tryz.ntmps82
    go_wp2_with (go_at_call 119; refine (HN.out _ (Ext.alloc _ _)).mono ?_; rintro e w1 ⟨rfl, hx⟩; obtain ⟨⟨k0, k1, k2⟩, hz, hx1⟩ := one_box hx; have HX := Lib.hid hx1; obtain ⟨hc, hf⟩ := hx.old; clear hx hx1)
    go_ret
    exact ⟨by rw [HR.out]; rfl, ext_set3 HX.out (Nat.le_refl _) _ _ _⟩
  · have hl : ((len d.m : Int) == 0) = false := by
      have : len d.m ≠ 0 := fun e => hm (len_eq_zero.1 e)
      simp; omega
    cases hn : d.neg with
    | true =>
      have HR := Lib.hid (sign_n hm hn)
      rw [hn] at HN
      clear hm hn H
      go_enter Tryz.func82, Tryz.ntmps82
      go_wp2_with (go_at_call 119; refine (HN.out _ (Ext.alloc _ _)).mono ?_; rintro e w1 ⟨rfl, hx⟩; obtain ⟨⟨k0, k1, k2⟩, hz, hx1⟩ := one_box hx; have HX := Lib.hid hx1; obtain ⟨hc, hf⟩ := hx.old; clear hx hx1)
      go_ret
      exact ⟨by rw [HR.out]; rfl, ext_set3 HX.out (Nat.le_refl _) _ _ _⟩
    | false =>
      have HR := Lib.hid (sign_p hm hn)
      rw [hn] at HN
      clear hm hn H
      go_enter Tryz.func82, Tryz.ntmps82
      go_wp2_with (go_at_call 119; refine (HN.out _ (Ext.alloc _ _)).mono ?_; rintro e w1 ⟨rfl, hx⟩; obtain ⟨⟨k0, k1, k2⟩, hz, hx1⟩ := one_box hx; have HX := Lib.hid hx1; obtain ⟨hc, hf⟩ := hx.old; clear hx hx1)
      go_ret
      exact ⟨by rw [HR.out]; rfl, ext_set3 HX.out (Nat.le_refl _) _ _ _⟩

end Go.Proofs.YtcdkkohklhmpgaaGreatDoor

/- Numbers as structs: normal at all grids. -/
import Derived.Test.YtgmmcfnahfcadaaDoorDy
namespace Go.Proofs.YtgmmcfnahfcadaaDoor
open Go.RowKit

set_option maxRecDepth 100000 in
set_option maxHeartbeats 1000000 in
theorem normal_big (neg : Bool) (A : Option Addr) (m ca k : Nat) (w : World) (hT : Tabs w) (ha : Rd w A (len m) (dg m)) (oa : SlOk A (len m) ca) (hL : len m ≤ 33554432) (hk : 65536 < k) (hk2 : k ≤ 1048576) :
    Calls Tryd.prog 71 #[.bool neg, .slice A (len m) ca, I k] w (DyRes (mkD neg m k) w) := by
  rw [mkD_big hk]
  have HA := Lib.hid ha; clear ha
  have OA := Lib.hid oa; clear oa
  have HT := Lib.hid hT; clear hT
  obtain ⟨c, hc'⟩ : ∃ c, k - 65536 = c := ⟨_, rfl⟩
  have ec : (k : Int) - 65536 = (c : Int) := by omega
  have hcp : 0 < c := by omega
  have hcl : c ≤ 1048576 := by omega
  rw [hc']
  clear hc'
  have hl1 : len (m / 2 ^ c) ≤ 33554432 := Nat.le_trans (len_mono (Nat.div_le_self _ _)) hL
  obtain ⟨x, hx⟩ : ∃ x, m / 2 ^ c = x := ⟨_, rfl⟩
  have HX := Lib.hid hx
  rw [hx] at hl1
  rw [hx]
  clear hx
  by_cases hm : x = 0
  · subst hm
    rw [nrm_zero]
    have HZ := Lib.hid HX.out
    go_enter Tryd.func71, Tryd.ntmps71
    go_wp2_with (go_at_call 68; refine (shiftRight_any A m c ca _ (HA.out.ext (Ext.alloc _ _)) OA.out (by omega) (by omega)).mono ?_; rintro e w1 ⟨A1, c1, rfl, hon, hx⟩; rw [HX.out, len_zero]; clear hon; obtain ⟨hc, hf⟩ := hx.old; have HXX := Lib.hid hx; clear hx)
    exact bodyPost_ret (v := dv false none 0 0 0) (by simp [results, Tryd.results71, go_sem, hc]) rfl (DyRes.zero (by repeat (first | exact (Ext.alloc _ _).trans HXX.out | refine Ext.set ?_ (Nat.le_refl _) _)))
  · rw [nrm_pos _ _ hm]
    have HM := Lib.hid hm
    have hlp := Lib.hid (hv_div_pos (k := 65536) hm)
    have hle := hv_le x 65536
    have h0 : len x ≠ 0 := fun e => hm (len_eq_zero.1 e)
    have hl0 : ((len x : Int) == 0) = false := by simp; omega
    clear hm h0
    go_enter Tryd.func71, Tryd.ntmps71
    go_wp2_with (go_at_call 68; refine (shiftRight_any A m c ca _ (HA.out.ext (Ext.alloc _ _)) OA.out (by omega) (by omega)).mono ?_; rintro e w1 ⟨A0, c0, rfl, hon0, hx0⟩; rw [HX.out] at hon0; rw [HX.out]; have HO := Lib.hid hon0; have HE0 := Lib.hid hx0; clear hon0; obtain ⟨hc0, hf0⟩ := hx0.old; have hz0 : w.heap.size < w1.heap.size := (by have := HE0.out.size; simp at this; omega); clear hx0)
    refine (trailingZeros_any A0 x c0 _ (HT.out.ext ((Ext.alloc _ _).trans HE0.out)) HO.out.rd HM.out (by omega)).mono ?_
    rintro e w1' ⟨T, rfl, hz, hTl, rfl⟩
    go_wp2_with fail
    · obtain ⟨j, hj⟩ : ∃ j : Nat, 65536 = j := ⟨_, rfl⟩
      have e : hv x 65536 = j := by rw [isTz_hv hz]; omega
      have ej : (65536 : Int) = (j : Int) := by omega
      have hjl : j ≤ 65536 := by omega
      have HE : Hid ((⟨neg, x / 2 ^ hv x 65536, 65536 - hv x 65536⟩ : DV) = ⟨neg, x / 2 ^ j, 0⟩) := by
        show DV.mk _ _ _ = _
        rw [e, show 65536 - j = 0 by omega]
      clear e hz hle
      rw [ej]
      clear ej hj
      refine (shiftRight_any A0 x j c0 _ HO.out.rd HO.out.ok (by omega) (by omega)).mono ?_
      rintro e w2 ⟨A1, c1, rfl, hon, hx⟩
      have hON := Lib.hid hon
      obtain ⟨hc, hf⟩ := hx.old
      have hXX : Hid (Ext w w2) := ((Ext.alloc _ _).trans HE0.out).trans hx
      clear hon hx
      go_wp2
      exact bodyPost_ret (v := dv neg A1 (len (x / 2 ^ j)) c1 0) (by simp [results, Tryd.results71, go_sem, hc, hc0, hz0]) rfl (DyRes.of (b := w1.heap.size) HE.out (by repeat (first | exact hON.out | refine On.set ?_ hz0 _ _)) (by omega) (by repeat (first | exact hXX.out | refine Ext.set ?_ (Nat.le_refl _) _)))
    · have e : hv x 65536 = T := by rw [isTz_hv hz]; omega
      obtain ⟨t, ht⟩ : ∃ t, 65536 - T = t := ⟨_, rfl⟩
      have et : 65536 - (T : Int) = (t : Int) := by omega
      have HE : Hid ((⟨neg, x / 2 ^ hv x 65536, 65536 - hv x 65536⟩ : DV) = ⟨neg, x / 2 ^ T, t⟩) := by
        show _ = _
        rw [e, ht]
      clear e ht hz hle
      refine (shiftRight_any A0 x T c0 _ HO.out.rd HO.out.ok (by omega) (by omega)).mono ?_
      rintro e w2 ⟨A1, c1, rfl, hon, hx⟩
      have hON := Lib.hid hon
      obtain ⟨hc, hf⟩ := hx.old
      have hXX : Hid (Ext w w2) := ((Ext.alloc _ _).trans HE0.out).trans hx
      clear hon hx
      go_wp2
      exact bodyPost_ret (v := dv neg A1 (len (x / 2 ^ T)) c1 t) (by simp [results, Tryd.results71, go_sem, hc, hc0, hz0]) rfl (DyRes.of (b := w1.heap.size) HE.out (by repeat (first | exact hON.out | refine On.set ?_ hz0 _ _)) (by omega) (by repeat (first | exact hXX.out | refine Ext.set ?_ (Nat.le_refl _) _)))

set_option maxRecDepth 100000 in
set_option maxHeartbeats 1000000 in
theorem normal_neg (neg : Bool) (A : Option Addr) (m ca k : Nat) (w : World) (ha : Rd w A (len m) (dg m)) (hL : len m ≤ 33554432) (hk : 0 < k) (hk2 : k ≤ 1048576) :
    Calls Tryd.prog 71 #[.bool neg, .slice A (len m) ca, I (-(k : Int))] w (DyRes (mkD neg (m * 2 ^ k) 0) w) := by
  rw [mkD_small (by decide)]
  have HA := Lib.hid ha; clear ha
  by_cases hm : m = 0
  · subst hm
    rw [Nat.zero_mul, nrm_zero, len_zero]
    clear hL
    go_enter Tryd.func71, Tryd.ntmps71
    go_wp2
    exact bodyPost_ret (v := dv false none 0 0 0) (by simp [results, Tryd.results71, go_sem]) rfl (DyRes.zero (Ext.alloc _ _))
  · rw [nrm0 (by have := Nat.mul_pos (show 0 < m by omega) (p2_pos k); omega)]
    have h0 : len m ≠ 0 := fun e => hm (len_eq_zero.1 e)
    have hl0 : ((len m : Int) == 0) = false := by simp; omega
    clear hm h0
    go_enter Tryd.func71, Tryd.ntmps71
    go_wp2_with (go_at_call 73; refine (shiftLeft_any A m k ca _ (HA.out.ext (Ext.alloc _ _)) (by omega) (by omega)).mono ?_; rintro e w2 ⟨A1, c1, rfl, hon, hx⟩; obtain ⟨hc, hf⟩ := hx.old; have HO := Lib.hid hon; have HX := Lib.hid hx; clear hon hx)
    have HON := Lib.hid (On.base1 HO.out)
    exact bodyPost_ret (v := dv neg A1 (len (m * 2 ^ k)) c1 0) (by simp [results, Tryd.results71, go_sem, hc]) rfl (DyRes.of (b := w.heap.size + 1) rfl (by repeat (first | exact HON.out | refine On.set ?_ (by omega) _ _)) (by omega) (by repeat (first | exact (Ext.alloc _ _).trans HX.out | refine Ext.set ?_ (Nat.le_refl _) _)))

theorem normal_any (neg : Bool) (A : Option Addr) (m ca : Nat) (den : Int) (w : World) (hT : Tabs w) (ha : Rd w A (len m) (dg m)) (oa : SlOk A (len m) ca) (hL : len m ≤ 33554432) (hk : -1048576 ≤ den) (hk2 : den ≤ 1048576) :
    Calls Tryd.prog 71 #[.bool neg, .slice A (len m) ca, I den] w (DyRes (nrmI neg m den) w) := by
  by_cases h : den < 0
  · obtain ⟨k, rfl⟩ : ∃ k : Nat, den = -(k : Int) := ⟨(-den).toNat, by omega⟩
    rw [nrmI_neg (by omega)]
    exact normal_neg neg A m ca k w ha hL (by omega) (by omega)
  · obtain ⟨k, rfl⟩ : ∃ k : Nat, den = (k : Int) := ⟨den.toNat, by omega⟩
    rw [nrmI_nat]
    rcases Nat.lt_or_ge 65536 k with h1 | h1
    · exact normal_big neg A m ca k w hT ha oa hL h1 (by omega)
    · exact normal_mid neg A m ca k w hT ha oa hL h1

end Go.Proofs.YtgmmcfnahfcadaaDoor

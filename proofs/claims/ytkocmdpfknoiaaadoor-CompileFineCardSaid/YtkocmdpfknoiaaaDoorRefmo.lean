/- The reference's number: all. -/
import Derived.Test.YtkocmdpfknoiaaaDoorMrf
import Derived.Test.YtkocmdpfknoiaaaDoorMdz
import Derived.Deep.DeepCutAuto
import Derived.Deep.DrawnRows
import Derived.Test.YtkocmdpfknoiaaaDoorRefhj
import Derived.Deep.RegionHeld3
namespace Go.Proofs.YtkocmdpfknoiaaaDoor

/-! ### Refn -/
section
open Go.RowKit

theorem rnumber_6 (neg : Bool) (A : Option Addr) (c m : Nat) (w : World) (ha : Rd w A (len m) (dg m)) (oa : SlOk A (len m) c) (hn : len m ≤ 33554432) :
    Calls Tryd.prog 31 #[.bool neg, .slice A (len m) c, I 65536] w (DyRes (mkD neg m 65536) w) := rnumber_at neg A c 65536 m w ha oa hn (Nat.le_refl _)

set_option maxRecDepth 100000 in
set_option maxHeartbeats 4000000 in
theorem rnumber_coarse (neg : Bool) (A : Option Addr) (n c k m : Nat) (f : Nat → Nat) (w : World) (ha : Rd w A n f) (oa : SlOk A n c) (hb : ∀ i, i < n → f i < 4294967296) (hv' : valN f n = m) (hn : n ≤ 33554432) (hk2 : k ≤ 1073741824) (hk6 : 65536 < k) (hk : ∀ j, j ≤ k → j ≤ 32 * len m → (∀ i, i < j → m / 2 ^ i % 2 = 0) → 65536 < k - j) :
    Calls Tryd.prog 31 #[.bool neg, .slice A n c, I k] w (DyRes (mkD neg m k) w) := by
  have HK := Lib.hid hk; clear hk
  have HMK : Hid (mkD neg (m / 2 ^ (k - 65536)) 65536 = mkD neg m k) := by
    show _ = _
    rw [mkD_small (Nat.le_refl _)]; unfold mkD; rw [if_neg (by omega)]
  obtain ⟨e6, he6⟩ : ∃ e6, k - 65536 = e6 := ⟨_, rfl⟩
  have ee6 : (k : Int) - 65536 = (e6 : Int) := by omega
  rw [he6] at HMK
  clear he6
  obtain ⟨d', hd'⟩ : ∃ d', mkD neg m k = d' := ⟨_, rfl⟩
  rw [hd'] at HMK ⊢
  clear hd'
  have hlm : len m ≤ n := by rw [← hv']; exact len_le (valN_lt hb)
  have HR := Lib.hid ((rd_val ha hb hv').ext (Ext.alloc w (.cells #[.bool false, .slice none 0 0, I 0] 37)))
  have HA := Lib.hid (ha.ext (Ext.alloc w (.cells #[.bool false, .slice none 0 0, I 0] 37))); clear ha
  have SB := Lib.hid (Bx.new w (.bool false) (.slice none 0 0) (I 0) 37)
  have HB := Lib.hid hb; clear hb
  obtain ⟨o1, o2, _⟩ := oa
  have HV := Lib.hid hv'; clear hv'
  obtain ⟨i0, hi0, hz0, hz1, hz2⟩ := info_parts infoU
  obtain ⟨L, hLe⟩ : ∃ L, len m = L := ⟨_, rfl⟩
  have HLe := Lib.hid hLe
  rw [hLe] at hlm
  have hright : Hid (∀ j : Nat, j ≤ 1073741824 → Calls Tryd.prog 32 #[.slice A L c, I j] (w.alloc (.cells #[.bool false, .slice none 0 0, I 0] 37)) (RightRes m j (w.alloc (.cells #[.bool false, .slice none 0 0, I 0] 37)))) := fun j hj => by
    rw [← HLe.out]; exact rright_any A m j c _ HR.out (by rw [HLe.out]; omega) hj
  rw [hLe] at HR
  clear hLe
  go_enter Tryd.func31, Tryd.ntmps31
  go_wp2_with (go_at_call 49; refine (rtrim_any A n c f _ HA.out HB.out o1 o2).mono ?_; rw [HV.out, HLe.out]; rintro e w4 ⟨rfl, rfl⟩)
  go_loopw [7] (fun si wr => w.alloc (.cells #[.bool false, .slice none 0 0, I 0] 37) = wr ∧ ∃ j : Nat, j ≤ k ∧ j ≤ 32 * L ∧ si = I j ∧ Hid (∀ i, i < j → m / 2 ^ i % 2 = 0)) (fun si _ => k - (intOf si).toNat)
  case atStart => exact ⟨rfl, 0, Nat.zero_le _, Nat.zero_le _, rfl, fun i hi => by omega⟩
  case round =>
    obtain ⟨rfl, j, hjk, hjL, rfl, hz⟩ := hrel
    by_cases hlt : j < k ∧ j < 32 * L
    · obtain ⟨l1, l2⟩ := hlt
      have i2 : (j : Int) < 32 * (L : Int) := by omega
      obtain ⟨a, hae⟩ : ∃ a, j / 32 = a := ⟨_, rfl⟩
      obtain ⟨s, hse⟩ : ∃ s, j % 32 = s := ⟨_, rfl⟩
      have haL : a < L := by omega
      have ea : (j : Int) / 32 = (a : Int) := by omega
      have es : (j : Int) % 32 = (s : Int) := by omega
      have hs32 : s < 32 := by omega
      have hbit := bit_dg m j
      rw [hae, hse] at hbit
      obtain ⟨b2, o2', rfl, hb2, c2⟩ := HR.out.at_ haL
      have hxl := dg_lt m a
      obtain ⟨x, hxe⟩ : ∃ x, dg m a = x := ⟨_, rfl⟩
      rw [hxe] at c2 hxl hbit
      clear hxe
      obtain ⟨v, hv⟩ : ∃ v, x / 2 ^ s = v := ⟨_, rfl⟩
      have ev : (x : Int) / 2 ^ s = (v : Int) := by rw [← hv]; simp
      have hvb : v < 4294967296 := by rw [← hv]; exact Nat.lt_of_le_of_lt (Nat.div_le_self _ _) hxl
      have eb := and_one32 hvb
      rw [hv] at hbit
      rw [hbit] at eb
      have i1 : (0 : Int) ≤ (a : Int) := by omega
      clear hv hbit hae hse
      by_cases hd : m / 2 ^ j % 2 = 0
      · rw [hd] at eb
        have hz' : Hid (∀ i, i < j + 1 → m / 2 ^ i % 2 = 0) := fun i hi => by
          by_cases e : i = j
          · subst e; exact hd
          · exact hz.out i (by omega)
        clear hd
        go_wp2
        go_roundw
        case rel => exact ⟨trivial, j + 1, by omega, by omega, by go_num, hz'⟩
        case measure => simp [intOf]; omega
      · have hd1 : m / 2 ^ j % 2 = 1 := by omega
        rw [hd1] at eb
        clear hd
        have hg := HK.out j hjk (by rw [HLe.out]; exact hjL) (fun i hi => hz.out i hi)
        have hg2 : (65536 : Int) < (k : Int) - (j : Int) := by omega
        obtain ⟨x, hxe⟩ : ∃ x, m / 2 ^ e6 = x := ⟨_, rfl⟩
        have hlx : len x ≤ L := by rw [← hxe, ← HLe.out]; exact len_mono (Nat.div_le_self _ _)
        rw [hxe] at HMK
        have HX := Lib.hid hxe
        clear hxe hz hg
        go_wp2_with (first
          | (go_at_call 32; (with_reducible refine (hright.out e6 (by omega)).mono ?_); rintro e w2 ⟨A1, c1, rfl, hon, hx⟩; rw [HX.out] at hon ⊢; have HON := Lib.hid hon; have HXT := Lib.hid hx; clear hon hx; have SB2 := Lib.hid (SB.out.ext HXT.out); obtain ⟨hc, hf⟩ := HXT.out.old)
          | (go_at_call 31; (with_reducible refine (rnumber_6 neg A1 c1 x _ HON.out.rd HON.out.ok (by omega)).mono ?_); rw [HMK.out]; rintro e w3 ⟨A2, c2, rfl, hon, hx⟩; have HO3 := Lib.hid hon; have HX3 := Lib.hid hx; clear hon hx; obtain ⟨⟨z0, z1, z2⟩, gz⟩ := SB2.out.ext HX3.out))
        all_goals
          have hsz := HXT.out.size
          have hlt := SB2.out.lt
          exact bodyPost_ret (v := dv d'.neg A2 (len d'.m) c2 d'.den) (by simp [results, Tryd.results31, go_sem, z0, z1, z2]) rfl (DyRes.end3 rfl HO3.out (((Ext.alloc _ _).trans HXT.out).trans HX3.out) (by simp at hsz ⊢; omega) (Nat.le_refl _) hlt)
    · have i2 : ¬ ((j : Int) < (k : Int) ∧ (j : Int) < 32 * (L : Int)) := by omega
      by_cases hjk2 : j < k
      · have i4 : ¬ (j : Int) < 32 * (L : Int) := by omega
        have hg := HK.out j hjk (by rw [HLe.out]; exact hjL) (fun i hi => hz.out i hi)
        have hg2 : (65536 : Int) < (k : Int) - (j : Int) := by omega
        obtain ⟨x, hxe⟩ : ∃ x, m / 2 ^ e6 = x := ⟨_, rfl⟩
        have hlx : len x ≤ L := by rw [← hxe, ← HLe.out]; exact len_mono (Nat.div_le_self _ _)
        rw [hxe] at HMK
        have HX := Lib.hid hxe
        clear hxe hz hg
        go_wp2_with (first
          | (go_at_call 32; (with_reducible refine (hright.out e6 (by omega)).mono ?_); rintro e w2 ⟨A1, c1, rfl, hon, hx⟩; rw [HX.out] at hon ⊢; have HON := Lib.hid hon; have HXT := Lib.hid hx; clear hon hx; have SB2 := Lib.hid (SB.out.ext HXT.out); obtain ⟨hc, hf⟩ := HXT.out.old)
          | (go_at_call 31; (with_reducible refine (rnumber_6 neg A1 c1 x _ HON.out.rd HON.out.ok (by omega)).mono ?_); rw [HMK.out]; rintro e w3 ⟨A2, c2, rfl, hon, hx⟩; have HO3 := Lib.hid hon; have HX3 := Lib.hid hx; clear hon hx; obtain ⟨⟨z0, z1, z2⟩, gz⟩ := SB2.out.ext HX3.out))
        all_goals
          have hsz := HXT.out.size
          have hlt := SB2.out.lt
          exact bodyPost_ret (v := dv d'.neg A2 (len d'.m) c2 d'.den) (by simp [results, Tryd.results31, go_sem, z0, z1, z2]) rfl (DyRes.end3 rfl HO3.out (((Ext.alloc _ _).trans HXT.out).trans HX3.out) (by simp at hsz ⊢; omega) (Nat.le_refl _) hlt)
      · exfalso
        have hg := HK.out j hjk (by rw [HLe.out]; exact hjL) (fun i hi => hz.out i hi)
        omega

theorem hv_ge {m k j : Nat} (hj : j ≤ k) (h : ∀ i, i < j → m / 2 ^ i % 2 = 0) : j ≤ hv m k := by
  rcases Nat.lt_or_ge (hv m k) j with h1 | h1
  · exfalso
    have h2 := h _ h1
    have h3 := hv_one_bit (m := m) (k := k) (Nat.lt_of_lt_of_le h1 hj)
    omega
  · exact h1
theorem rnumber_any (neg : Bool) (A : Option Addr) (n c k m : Nat) (f : Nat → Nat) (w : World) (ha : Rd w A n f) (oa : SlOk A n c) (hb : ∀ i, i < n → f i < 4294967296) (hv' : valN f n = m) (hn : n ≤ 33554432) (hk : k ≤ 1073741824) :
    Calls Tryd.prog 31 #[.bool neg, .slice A n c, I k] w (DyRes (mkD neg m k) w) := by
  rcases Nat.lt_or_ge 65536 k with h6 | h6
  · by_cases hm : m = 0
    · refine rnumber_coarse neg A n c k m f w ha oa hb hv' hn hk h6 (fun j h1 h2 _ => ?_)
      rw [hm, len_zero] at h2
      omega
    · by_cases hf : k - hv m k ≤ 65536
      · exact rnumber_fine neg A n c k m f w ha oa hb hv' hn hk hm hf
      · refine rnumber_coarse neg A n c k m f w ha oa hb hv' hn hk h6 (fun j h1 _ h3 => ?_)
        -- j is at most the number of halves
        have := hv_le m k
        exact Nat.lt_of_lt_of_le (by omega : 65536 < k - hv m k) (Nat.sub_le_sub_left (hv_ge h1 h3) k)
  · exact rnumber_le neg A n c k m f w ha oa hb hv' hn h6
theorem rnumber_of (neg : Bool) (A : Option Addr) (c k m : Nat) (w : World) (ha : Rd w A (len m) (dg m)) (oa : SlOk A (len m) c) (hn : len m ≤ 33554432) (hk : k ≤ 1073741824) :
    Calls Tryd.prog 31 #[.bool neg, .slice A (len m) c, I k] w (DyRes (mkD neg m k) w) :=
  rnumber_any neg A (len m) c k m (dg m) w ha oa (fun i _ => dg_lt m i) (valN_dg_all (Nat.le_refl _)) hn hk
end

/-! ### Refm -/
section
open Go.RowKit
attribute [local go_sem ↓] Go.wp_at_zero Go.wp_at_succ

end

/-! ### Refo -/
section
open Go.RowKit

theorem rnumber_I (neg : Bool) (A : Option Addr) (c m : Nat) (x : Int) (k : Nat) (w : World) (d' : DV) (hd : mkD neg m k = d') (hx : x = (k : Int)) (ha : Rd w A (len m) (dg m)) (oa : SlOk A (len m) c) (hn : len m ≤ 33554432) (hk : k ≤ 1073741824) :
    Calls Tryd.prog 31 #[.bool neg, .slice A (len m) c, I x] w (DyRes d' w) := by
  subst hx; rw [← hd]; exact rnumber_of neg A c k m w ha oa hn hk
theorem rleft_I (A : Option Addr) (m ca : Nat) (x : Int) (n : Nat) (w : World) (hx : x = (n : Int)) (ha : Rd w A (len m) (dg m)) (hL : len m ≤ 1073741824) (hn : n ≤ 1073741824) :
    Calls Tryd.prog 34 #[.slice A (len m) ca, I x] w (NatRes (m * 2 ^ n) w) := by
  subst hx; exact rleft_any A m n ca w ha hL hn
theorem shiftD_neg {d : DV} {s : Int} {K : Nat} (h : clampN s < 0) (hK : d.den + (-clampN s).toNat = K) : shiftD d s = mkD d.neg d.m K := by unfold shiftD; rw [if_pos h, hK]
theorem shiftD_pos {d : DV} {s : Int} {K : Nat} (h : 0 ≤ clampN s) (hK : (clampN s).toNat = K) : shiftD d s = mkD d.neg (d.m * 2 ^ K) d.den := by unfold shiftD; rw [if_neg (by omega), hK]
theorem clamp_lo {s : Int} (h : s < -65536) : clampN s = -65536 := by unfold clampN; omega
theorem clamp_hi {s : Int} (h : 65536 < s) : clampN s = 65536 := by unfold clampN; omega
theorem clamp_in {s : Int} (h : -65536 ≤ s) (h2 : s ≤ 65536) : clampN s = s := by unfold clampN; omega

set_option maxRecDepth 100000 in
set_option maxHeartbeats 1000000 in
theorem rshift_any2 {w : World} {neg : Bool} {A A' : Option Addr} {n c c' : Nat} {den : Int} {d : DV} (s : Int) (h : Dy w neg A n c den d A' c') (hs1 : -9223372036854775808 ≤ s) (hs2 : s ≤ 9223372036854775807) : Calls Tryd.prog 18 #[dv neg A n c den, I s] w (DyRes (shiftD d s) w) := by
  have H := Lib.hid h; clear h
  have hd1 := H.out.wf.2.1
  have hl1 := H.out.lim
  obtain ⟨d', hd'⟩ : ∃ d', shiftD d s = d' := ⟨_, rfl⟩
  rw [hd']
  have h3 : s < -65536 ∨ 65536 < s ∨ (-65536 ≤ s ∧ s < 0) ∨ (0 ≤ s ∧ s ≤ 65536) := by omega
  have h5 : clampN s < 0 ∨ 0 ≤ clampN s := by omega
  rcases h5 with h5 | h5
  · obtain ⟨K, hK⟩ : ∃ K, d.den + (-clampN s).toNat = K := ⟨_, rfl⟩
    have HD' : Hid (mkD d.neg d.m K = d') := by show _ = _; rw [← hd']; exact (shiftD_neg h5 hK).symm
    have hK2 : (K : Int) = d.den - clampN s ∧ K ≤ 131072 := by unfold clampN at *; omega
    obtain ⟨hK2, hK3⟩ := hK2
    clear hd' hK
    rcases h3 with h3 | h3 | ⟨h3, h4⟩ | ⟨h3, h4⟩
    · rw [clamp_lo h3] at hK2
      clear h5
      go_enter Tryd.func18, Tryd.ntmps18
      go_wp2_with (go_at_call 30; refine (H.out.norm _ ((Ext.alloc _ _).trans (Ext.alloc _ _))).mono ?_; rintro e w1 ⟨rfl, hx⟩; obtain ⟨⟨k0, k1, k2⟩, s1, hz, hx1⟩ := two_boxes hx; have S1 := Lib.hid s1; have HX := Lib.hid hx1; obtain ⟨hc, hf⟩ := hx.old; clear hx hx1 s1)
      have HW := Lib.hid (ext_set3 HX.out (Nat.le_refl _))
      (with_reducible refine (rnumber_I d.neg A' c' d.m _ K _ d' HD'.out (by omega) (H.out.rd.ext (HW.out _ _ _)) H.out.sl (by omega) (by omega)).mono ?_)
      rintro e w2 ⟨A2, c2, rfl, hon, hx⟩
      obtain ⟨r0, r1, r2⟩ := (S1.out.far3 (by omega) _ _ _).ext hx
      obtain ⟨hc2, hf2⟩ := hx.old
      have HX2 := Lib.hid ((HW.out _ _ _).trans hx)
      have HO := Lib.hid hon
      clear hon hx
      go_wp2_with fail
      exact bodyPost_ret (v := dv d'.neg A2 (len d'.m) c2 d'.den) (by simp [results, Tryd.results18, go_sem, r0, r1, r2]) rfl (DyRes.end3 rfl HO.out HX2.out (by simp; omega) (by omega) (by simp; omega))
    · exfalso; rw [clamp_hi h3] at h5; omega
    · rw [clamp_in h3 (by omega)] at hK2
      clear h5
      go_enter Tryd.func18, Tryd.ntmps18
      go_wp2_with (go_at_call 30; refine (H.out.norm _ ((Ext.alloc _ _).trans (Ext.alloc _ _))).mono ?_; rintro e w1 ⟨rfl, hx⟩; obtain ⟨⟨k0, k1, k2⟩, s1, hz, hx1⟩ := two_boxes hx; have S1 := Lib.hid s1; have HX := Lib.hid hx1; obtain ⟨hc, hf⟩ := hx.old; clear hx hx1 s1)
      all_goals
        have HW := Lib.hid (ext_set3 HX.out (Nat.le_refl _))
        (with_reducible refine (rnumber_I d.neg A' c' d.m _ K _ d' HD'.out (by omega) (H.out.rd.ext (HW.out _ _ _)) H.out.sl (by omega) (by omega)).mono ?_)
        rintro e w2 ⟨A2, c2, rfl, hon, hx⟩
        obtain ⟨r0, r1, r2⟩ := (S1.out.far3 (by omega) _ _ _).ext hx
        obtain ⟨hc2, hf2⟩ := hx.old
        have HX2 := Lib.hid ((HW.out _ _ _).trans hx)
        have HO := Lib.hid hon
        clear hon hx
        go_wp2_with fail
        exact bodyPost_ret (v := dv d'.neg A2 (len d'.m) c2 d'.den) (by simp [results, Tryd.results18, go_sem, r0, r1, r2]) rfl (DyRes.end3 rfl HO.out HX2.out (by simp; omega) (by omega) (by simp; omega))
    · exfalso; rw [clamp_in (by omega) h4] at h5; omega
  · obtain ⟨K, hK⟩ : ∃ K, (clampN s).toNat = K := ⟨_, rfl⟩
    have hK2 : (K : Int) = clampN s ∧ K ≤ 65536 := by unfold clampN at *; omega
    obtain ⟨hK2, hK3⟩ := hK2
    obtain ⟨P, hP⟩ : ∃ P, d.m * 2 ^ K = P := ⟨_, rfl⟩
    have HD' : Hid (mkD d.neg P d.den = d') := by show _ = _; rw [← hd', ← hP]; exact (shiftD_pos h5 hK).symm
    have hPl : len P ≤ 33554432 := by have := len_shl d.m K; rw [hP] at this; omega
    have HP := Lib.hid hP
    clear hd' hK hP
    rcases h3 with h3 | h3 | ⟨h3, h4⟩ | ⟨h3, h4⟩
    · exfalso; rw [clamp_lo h3] at h5; omega
    · rw [clamp_hi h3] at hK2
      clear h5
      go_enter Tryd.func18, Tryd.ntmps18
      go_wp2_with (go_at_call 30; refine (H.out.norm _ ((Ext.alloc _ _).trans (Ext.alloc _ _))).mono ?_; rintro e w1 ⟨rfl, hx⟩; obtain ⟨s0, s1, hx1⟩ := two_bx hx; have S0 := Lib.hid s0; obtain ⟨⟨k0, k1, k2⟩, kz⟩ := s0; have S1 := Lib.hid s1; have HX := Lib.hid hx1; clear hx hx1 s1)
      have HW := Lib.hid (ext_set3 HX.out (Nat.le_refl _) (.bool d.neg) (.slice A' (len d.m) c') (I d.den))
      have HS0 := Lib.hid (S0.out.set3 (.bool d.neg) (.slice A' (len d.m) c') (I d.den))
      have HS1 := Lib.hid (S1.out.far3 (g' := w.heap.size) (by omega) (.bool d.neg) (.slice A' (len d.m) c') (I d.den))
      clear S0 S1 HX k0 k1 k2 kz
      obtain ⟨⟨k0, k1, k2⟩, kz⟩ := HS0.out
      have hsz := HS1.out.lt
      generalize ((w1.setCell ⟨w.heap.size, 0, none⟩ (.bool d.neg)).setCell ⟨w.heap.size, 1, none⟩ (.slice A' (len d.m) c')).setCell ⟨w.heap.size, 2, none⟩ (I d.den) = W at *
      go_region_held3 (fun w' => w'.cell? ⟨w.heap.size, 0, none⟩ = some (.bool d.neg) ∧ w'.cell? ⟨w.heap.size, 1, none⟩ = some (.slice A' (len d.m) c') ∧ w'.cell? ⟨w.heap.size, 2, none⟩ = some (I d.den)) (go_keep)
        (first
          | (have hg := HX3; clear hg; go_at_call 31; (with_reducible refine (rnumber_of d.neg A1 c1 d.den P _ HO1.out.rd HO1.out.ok hPl (by omega)).mono ?_); rw [HD'.out]; rintro e w4 ⟨A2, c2, rfl, hon, hx⟩; have HO := Lib.hid hon; obtain ⟨⟨r0, r1, r2⟩, rz⟩ := HS1.out.ext (((Ext.drew _).trans HX3.out).trans hx); obtain ⟨⟨y0, y1, y2⟩, yz⟩ := HS0.out.ext (((Ext.drew _).trans HX3.out).trans hx); have HX4 := Lib.hid (((HW.out.trans (Ext.drew _)).trans HX3.out).trans hx); clear hon hx)
          | (go_at_call 34; (with_reducible refine (rleft_I A' d.m c' _ K _ (by omega) (H.out.rd.ext (HW.out.trans (Ext.drew _))) (by omega) (by omega)).mono ?_); rw [HP.out]; rintro e w3 ⟨A1, c1, rfl, hon, hx⟩; have HO1 := Lib.hid hon; obtain ⟨⟨q0, q1, q2⟩, qz⟩ := HS0.out.ext ((Ext.drew _).trans hx); have HX3 := Lib.hid hx; clear hon hx))
      all_goals
        have hs3 := HX3.out.size
        have hs0 : W.drew.heap.size = W.heap.size := rfl
        go_wp2_with fail
        exact bodyPost_ret (v := dv d'.neg A2 (len d'.m) c2 d'.den) (by simp [results, Tryd.results18, go_sem, r0, r1, r2]) rfl (DyRes.end3 rfl HO.out HX4.out (by omega) (by omega) (by omega))
    · exfalso; rw [clamp_in h3 (by omega)] at h5; omega
    · rw [clamp_in (by omega) h4] at hK2
      clear h5
      go_enter Tryd.func18, Tryd.ntmps18
      go_wp2_with (go_at_call 30; refine (H.out.norm _ ((Ext.alloc _ _).trans (Ext.alloc _ _))).mono ?_; rintro e w1 ⟨rfl, hx⟩; obtain ⟨s0, s1, hx1⟩ := two_bx hx; have S0 := Lib.hid s0; obtain ⟨⟨k0, k1, k2⟩, kz⟩ := s0; have S1 := Lib.hid s1; have HX := Lib.hid hx1; clear hx hx1 s1)
      have HW := Lib.hid (ext_set3 HX.out (Nat.le_refl _) (.bool d.neg) (.slice A' (len d.m) c') (I d.den))
      have HS0 := Lib.hid (S0.out.set3 (.bool d.neg) (.slice A' (len d.m) c') (I d.den))
      have HS1 := Lib.hid (S1.out.far3 (g' := w.heap.size) (by omega) (.bool d.neg) (.slice A' (len d.m) c') (I d.den))
      clear S0 S1 HX k0 k1 k2 kz
      obtain ⟨⟨k0, k1, k2⟩, kz⟩ := HS0.out
      have hsz := HS1.out.lt
      generalize ((w1.setCell ⟨w.heap.size, 0, none⟩ (.bool d.neg)).setCell ⟨w.heap.size, 1, none⟩ (.slice A' (len d.m) c')).setCell ⟨w.heap.size, 2, none⟩ (I d.den) = W at *
      go_region_held3 (fun w' => w'.cell? ⟨w.heap.size, 0, none⟩ = some (.bool d.neg) ∧ w'.cell? ⟨w.heap.size, 1, none⟩ = some (.slice A' (len d.m) c') ∧ w'.cell? ⟨w.heap.size, 2, none⟩ = some (I d.den)) (go_keep)
        (first
          | (have hg := HX3; clear hg; go_at_call 31; (with_reducible refine (rnumber_of d.neg A1 c1 d.den P _ HO1.out.rd HO1.out.ok hPl (by omega)).mono ?_); rw [HD'.out]; rintro e w4 ⟨A2, c2, rfl, hon, hx⟩; have HO := Lib.hid hon; obtain ⟨⟨r0, r1, r2⟩, rz⟩ := HS1.out.ext (((Ext.drew _).trans HX3.out).trans hx); obtain ⟨⟨y0, y1, y2⟩, yz⟩ := HS0.out.ext (((Ext.drew _).trans HX3.out).trans hx); have HX4 := Lib.hid (((HW.out.trans (Ext.drew _)).trans HX3.out).trans hx); clear hon hx)
          | (go_at_call 34; (with_reducible refine (rleft_I A' d.m c' _ K _ (by omega) (H.out.rd.ext (HW.out.trans (Ext.drew _))) (by omega) (by omega)).mono ?_); rw [HP.out]; rintro e w3 ⟨A1, c1, rfl, hon, hx⟩; have HO1 := Lib.hid hon; obtain ⟨⟨q0, q1, q2⟩, qz⟩ := HS0.out.ext ((Ext.drew _).trans hx); have HX3 := Lib.hid hx; clear hon hx))
      all_goals
        have hs3 := HX3.out.size
        have hs0 : W.drew.heap.size = W.heap.size := rfl
        go_wp2_with fail
        exact bodyPost_ret (v := dv d'.neg A2 (len d'.m) c2 d'.den) (by simp [results, Tryd.results18, go_sem, r0, r1, r2]) rfl (DyRes.end3 rfl HO.out HX4.out (by omega) (by omega) (by omega))
end

/-! ### Rof -/
section
/-! ### Rof -/
section
open Go.RowKit

theorem rnumber_two (neg : Bool) (g lo hi m : Nat) (w : World) (hg : g < w.heap.size) (h0 : w.cell? ⟨g, 0, none⟩ = some (U4 lo)) (h1 : w.cell? ⟨g, 1, none⟩ = some (U4 hi)) (hlo : lo < 4294967296) (hhi : hi < 4294967296) (hm : lo + hi * 4294967296 = m) :
    Calls Tryd.prog 31 #[.bool neg, .slice (some ⟨g, 0, none⟩) 2 2, I 0] w (DyRes (mkD neg m 0) w) := by
  have h := rnumber_any neg (some ⟨g, 0, none⟩) 2 2 0 m (fun i => if i = 0 then lo else hi) w (fun _ => ⟨g, 0, rfl, hg, fun i hi2 => by
      have : i = 0 ∨ i = 1 := by omega
      rcases this with rfl | rfl
      · exact h0
      · exact h1⟩) ⟨Nat.le_refl _, by unfold maxLen; omega, fun e => by cases e⟩ (fun i hi2 => by
      have : i = 0 ∨ i = 1 := by omega
      rcases this with rfl | rfl
      · exact hlo
      · exact hhi) (by
      rw [← hm]
      show 0 + _ * pB 0 + _ * pB 1 = _
      have e1 : pB 1 = 4294967296 := by unfold pB; rw [Nat.pow_one]
      rw [pB_zero, e1]
      simp) (by omega) (by omega)
  exact h

set_option maxRecDepth 100000 in
set_option maxHeartbeats 1000000 in
theorem rof_any (n : Int) (w : World) (h1 : -9223372036854775808 ≤ n) (h2 : n ≤ 9223372036854775807) : Calls Tryd.prog 20 #[I n] w (DyRes (ofI n 0) w) := by
  have SB := Lib.hid (Bx.new w (.bool false) (.slice none 0 0) (I 0) 37)
  obtain ⟨m, hm⟩ : ∃ m, n.natAbs = m := ⟨_, rfl⟩
  obtain ⟨lo, hlo⟩ : ∃ x, m % 4294967296 = x := ⟨_, rfl⟩
  obtain ⟨hi, hhi⟩ : ∃ x, m / 4294967296 = x := ⟨_, rfl⟩
  have el : (m : Int) % 4294967296 = (lo : Int) := by omega
  have eh : (m : Int) / 4294967296 = (hi : Int) := by omega
  have hlb : lo < 4294967296 := by omega
  have hhb : hi < 4294967296 := by omega
  have eh2 : (hi : Int) % 4294967296 = (hi : Int) := by omega
  have hsum : Hid (lo + hi * 4294967296 = m) := by show _ = _; omega
  have HLO := Lib.hid hlb; have HHI := Lib.hid hhb
  by_cases hn : n < 0
  · have HD : Hid (mkD true m 0 = ofI n 0) := by show _ = _; unfold ofI; rw [hm, decide_eq_true hn]
    have e1 : -(n + 1) % 18446744073709551616 = -(n + 1) := by omega
    have e2 : -(n + 1) + 1 = (m : Int) := by omega
    obtain ⟨d', hd'⟩ : ∃ d', ofI n 0 = d' := ⟨_, rfl⟩
    rw [hd'] at HD ⊢
    clear hd' hm hlo hhi
    go_enter Tryd.func20, Tryd.ntmps20
    go_wp2_with (go_at_call 31; (with_reducible refine (rnumber_two true _ lo hi m _ (by go_simp) (by go_simp) (by go_simp) HLO.out HHI.out hsum.out).mono ?_); rw [HD.out]; rintro e w2 ⟨A2, c2, rfl, hon, hx⟩; obtain ⟨⟨r0, r1, r2⟩, rz⟩ := SB.out.ext ((Ext.alloc _ _).trans hx); have HO := Lib.hid hon; have HX := Lib.hid (((Ext.alloc _ _).trans (Ext.alloc _ _)).trans hx); clear hon hx)
    exact bodyPost_ret (v := dv d'.neg A2 (len d'.m) c2 d'.den) (by simp [results, Tryd.results20, go_sem, r0, r1, r2]) rfl (DyRes.end3 rfl HO.out HX.out (by simp; omega) (Nat.le_refl _) (by simp; omega))
  · have HD : Hid (mkD false m 0 = ofI n 0) := by show _ = _; unfold ofI; rw [hm, decide_eq_false hn]
    have e1 : n % 18446744073709551616 = (m : Int) := by omega
    have e2 : n = (m : Int) := by omega
    obtain ⟨d', hd'⟩ : ∃ d', ofI n 0 = d' := ⟨_, rfl⟩
    rw [hd'] at HD ⊢
    subst e2
    have e3 : ¬ (m : Int) < 0 := by omega
    clear hd' hm hlo hhi hn
    go_enter Tryd.func20, Tryd.ntmps20
    go_wp2_with (go_at_call 31; (with_reducible refine (rnumber_two false _ lo hi m _ (by go_simp) (by go_simp) (by go_simp) HLO.out HHI.out hsum.out).mono ?_); rw [HD.out]; rintro e w2 ⟨A2, c2, rfl, hon, hx⟩; obtain ⟨⟨r0, r1, r2⟩, rz⟩ := SB.out.ext ((Ext.alloc _ _).trans hx); have HO := Lib.hid hon; have HX := Lib.hid (((Ext.alloc _ _).trans (Ext.alloc _ _)).trans hx); clear hon hx)
    exact bodyPost_ret (v := dv d'.neg A2 (len d'.m) c2 d'.den) (by simp [results, Tryd.results20, go_sem, r0, r1, r2]) rfl (DyRes.end3 rfl HO.out HX.out (by simp; omega) (Nat.le_refl _) (by simp; omega))
end
end

end Go.Proofs.YtkocmdpfknoiaaaDoor

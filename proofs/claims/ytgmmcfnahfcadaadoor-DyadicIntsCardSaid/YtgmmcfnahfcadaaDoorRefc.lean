/- The reference's functions on absolute values, part 3: minus. -/
import Derived.Test.YtgmmcfnahfcadaaDoorRefb
namespace Go.Proofs.YtgmmcfnahfcadaaDoor
open Go.RowKit

theorem natRes_on {w w' : World} {x n c : Nat} {A : Option Addr} {f : Nat → Nat} {e : Ending} (hO : On w' w.heap.size A n c f) (hb : ∀ i, i < n → f i < 4294967296) (hv : valN f n = x) (he : e = .returned (.slice A (len (valN f n)) c)) (hx : Ext w w') : NatRes x w e w' := by
  rcases hO.cases with ⟨rfl, rfl, rfl⟩ | ⟨g, rfl, hr⟩
  · subst hv
    refine ⟨none, 0, he, ?_, hx⟩
    rw [show valN f 0 = 0 from rfl, len_zero]
    exact On.nil _ _ _
  · exact natRes_of hr hb hv he hx
theorem minus_end {S m n b P : Nat} (h : S + n = m + b * P) (hS : S < P) (hmn : n ≤ m) (hb : b ≤ 1) : S = m - n := by
  rcases Nat.le_one_iff_eq_zero_or_eq_one.1 hb with rfl | rfl <;> omega

set_option maxRecDepth 100000 in
set_option maxHeartbeats 1000000 in
theorem rminus_any (A B : Option Addr) (m n ca cb : Nat) (w : World) (ha : Rd w A (len m) (dg m)) (hb' : Rd w B (len n) (dg n)) (hL : len m ≤ 1073741824) (hmn : n ≤ m) :
    Calls Tryd.prog 85 #[.slice A (len m) ca, .slice B (len n) cb] w (NatRes (m - n) w) := by
  have HA := Lib.hid ha; clear ha
  have HB := Lib.hid hb'; clear hb'
  have hlm := len_mono hmn
  have HMN := Lib.hid hmn; clear hmn
  obtain ⟨L, hla⟩ : ∃ l, len m = l := ⟨_, rfl⟩
  obtain ⟨lb, hlb⟩ : ∃ l, len n = l := ⟨_, rfl⟩
  rw [hla] at hL HA hlm ⊢
  rw [hlb] at HB hlm ⊢
  have Hle := Lib.hid hla; clear hla
  have Hle2 := Lib.hid hlb; clear hlb
  go_enter Tryd.func85, Tryd.ntmps85
  go_wp2
  go_loopw [5, 6, 11] (fun so sc si wr => ∃ (k bw : Nat) (Ao : Option Addr) (co : Nat) (F : Nat → Nat), k ≤ L ∧ si = I k ∧ sc = I bw ∧ so = .slice Ao k co ∧ bw ≤ 1 ∧ Hid (On wr w.heap.size Ao k co F) ∧ Hid (Ext w wr) ∧ Hid (∀ i, i < k → F i < 4294967296) ∧ Hid (valN F k + valN (dg n) k = valN (dg m) k + bw * pB k)) (fun _ _ si _ => L - (intOf si).toNat)
  case atStart => exact ⟨0, 0, none, 0, fun _ => 0, Nat.zero_le _, rfl, rfl, rfl, by omega, On.nil _ _ _, Ext.refl _, (fun i hi => by omega), by show _ = _; simp [valN]⟩
  case round =>
    obtain ⟨k, bw, Ao, co, F, hk, rfl, rfl, rfl, hbw, hO, hX, hB, hv⟩ := hrel
    by_cases hlt : k < L
    · have hxl := dg_lt m k
      have hyl := dg_lt n k
      obtain ⟨x, hxe⟩ : ∃ x, dg m k = x := ⟨_, rfl⟩
      obtain ⟨y, hye⟩ : ∃ y, dg n k = y := ⟨_, rfl⟩
      rw [hxe] at hxl
      rw [hye] at hyl
      obtain ⟨b2, o2, rfl, hb2, c2⟩ := (HA.out.ext hX.out).at_ hlt
      rw [hxe] at c2
      by_cases hneg : x < bw + y
      · obtain ⟨r, hr⟩ : ∃ r, r + y + bw = x + 1 * 4294967296 := ⟨x + 4294967296 - y - bw, by omega⟩
        have hrb : r < 4294967296 := by omega
        by_cases hq : k < lb
        · have hpq := hq
          clear hpq
          have hs := Lib.hid (sub_step (s := r) (x := x) (y := y) (c := bw) (c' := 1) hv.out (by omega))
          have HXE := Lib.hid hxe; have HYE := Lib.hid hye
          have e3 : (r : Int) % 4294967296 = (r : Int) := by omega
          clear hxe hye
          obtain ⟨b3, o3, rfl, hb3, c3⟩ := (HB.out.ext hX.out).at_ hq
          rw [HYE.out] at c3
          obtain ⟨t0, ht0⟩ : ∃ t0 : Int, (x : Int) - (bw : Int) = t0 := ⟨_, rfl⟩
          obtain ⟨t, ht⟩ : ∃ t : Int, t0 - (y : Int) = t := ⟨_, rfl⟩
          have t1 : -4294967297 ≤ t0 := by omega
          have t2 : t0 < 4294967296 := by omega
          have t3 : -8589934592 ≤ t := by omega
          have t4 : t < 4294967296 := by omega
          have t5 : t < 0 := by omega
          have t6 : t + 4294967296 = (r : Int) := by omega
          clear hr hyl hxl
          go_wp2_with (at_builtin; refine app1 rfl _ _ rfl w.heap.size Ao k co F (by rfl) (hO.out.ext (Ext.alloc _ _)) _ 1 r (by rfl) (by go_simp <;> omega) (by omega) (by have := hX.out.size; simp; omega) ?_; intro g cap w2 hrow hg hat hlt2; have HR := Lib.hid hrow; have HX2 : Hid (Ext w w2) := ext_app (hX.out.trans (Ext.alloc _ _)) (hO.out.ext (Ext.alloc _ _)) hg; clear hrow hg hat hlt2)
          go_roundw
          case rel =>
            refine ⟨k + 1, 1, some ⟨g, 0, none⟩, cap, upd F k r, by omega, by go_num, by go_num, rfl, by omega, HR.out.on, HX2, ?_, ?_⟩
            · exact fun i hi => by
                by_cases e : i = k
                · subst e; rw [upd_same]; exact hrb
                · rw [upd_ne _ e]; exact hB.out i (by omega)
            · show _ = _
              rw [pB_succ, valN_upd, valN, valN, HXE.out, HYE.out]
              have := hs.out
              omega
          case measure => simp [intOf]; omega

        · have hpq := hxl
          clear hpq
          have hs := Lib.hid (sub_step (s := r) (x := x) (y := y) (c := bw) (c' := 1) hv.out (by omega))
          have HXE := Lib.hid hxe; have HYE := Lib.hid hye
          have e3 : (r : Int) % 4294967296 = (r : Int) := by omega
          clear hxe hye
          have hy0 : y = 0 := by rw [← HYE.out]; exact dg_high (by rw [Hle2.out]; omega)
          subst hy0
          obtain ⟨t, ht⟩ : ∃ t : Int, (x : Int) - (bw : Int) = t := ⟨_, rfl⟩
          have t3 : -8589934592 ≤ t := by omega
          have t4 : t < 4294967296 := by omega
          have t5 : t < 0 := by omega
          have t6 : t + 4294967296 = (r : Int) := by omega
          clear hr hyl hxl
          go_wp2_with (at_builtin; refine app1 rfl _ _ rfl w.heap.size Ao k co F (by rfl) (hO.out.ext (Ext.alloc _ _)) _ 1 r (by rfl) (by go_simp <;> omega) (by omega) (by have := hX.out.size; simp; omega) ?_; intro g cap w2 hrow hg hat hlt2; have HR := Lib.hid hrow; have HX2 : Hid (Ext w w2) := ext_app (hX.out.trans (Ext.alloc _ _)) (hO.out.ext (Ext.alloc _ _)) hg; clear hrow hg hat hlt2)
          go_roundw
          case rel =>
            refine ⟨k + 1, 1, some ⟨g, 0, none⟩, cap, upd F k r, by omega, by go_num, by go_num, rfl, by omega, HR.out.on, HX2, ?_, ?_⟩
            · exact fun i hi => by
                by_cases e : i = k
                · subst e; rw [upd_same]; exact hrb
                · rw [upd_ne _ e]; exact hB.out i (by omega)
            · show _ = _
              rw [pB_succ, valN_upd, valN, valN, HXE.out, HYE.out]
              have := hs.out
              omega
          case measure => simp [intOf]; omega

      · obtain ⟨r, hr⟩ : ∃ r, r + y + bw = x + 0 * 4294967296 := ⟨x - y - bw, by omega⟩
        have hrb : r < 4294967296 := by omega
        by_cases hq : k < lb
        · have hpq := hq
          clear hpq
          have hs := Lib.hid (sub_step (s := r) (x := x) (y := y) (c := bw) (c' := 0) hv.out (by omega))
          have HXE := Lib.hid hxe; have HYE := Lib.hid hye
          have e3 : (r : Int) % 4294967296 = (r : Int) := by omega
          clear hxe hye
          obtain ⟨b3, o3, rfl, hb3, c3⟩ := (HB.out.ext hX.out).at_ hq
          rw [HYE.out] at c3
          obtain ⟨t0, ht0⟩ : ∃ t0 : Int, (x : Int) - (bw : Int) = t0 := ⟨_, rfl⟩
          obtain ⟨t, ht⟩ : ∃ t : Int, t0 - (y : Int) = t := ⟨_, rfl⟩
          have t1 : -4294967297 ≤ t0 := by omega
          have t2 : t0 < 4294967296 := by omega
          have t3 : -8589934592 ≤ t := by omega
          have t4 : t < 4294967296 := by omega
          have t5 : ¬ t < 0 := by omega
          have t6 : t % 4294967296 = (r : Int) := by omega
          clear e3
          clear hr hyl hxl
          go_wp2_with (at_builtin; refine app1 rfl _ _ rfl w.heap.size Ao k co F (by rfl) (hO.out.ext (Ext.alloc _ _)) _ 1 r (by rfl) (by go_simp <;> omega) (by omega) (by have := hX.out.size; simp; omega) ?_; intro g cap w2 hrow hg hat hlt2; have HR := Lib.hid hrow; have HX2 : Hid (Ext w w2) := ext_app (hX.out.trans (Ext.alloc _ _)) (hO.out.ext (Ext.alloc _ _)) hg; clear hrow hg hat hlt2)
          go_roundw
          case rel =>
            refine ⟨k + 1, 0, some ⟨g, 0, none⟩, cap, upd F k r, by omega, by go_num, by go_num, rfl, by omega, HR.out.on, HX2, ?_, ?_⟩
            · exact fun i hi => by
                by_cases e : i = k
                · subst e; rw [upd_same]; exact hrb
                · rw [upd_ne _ e]; exact hB.out i (by omega)
            · show _ = _
              rw [pB_succ, valN_upd, valN, valN, HXE.out, HYE.out]
              have := hs.out
              omega
          case measure => simp [intOf]; omega

        · have hpq := hxl
          clear hpq
          have hs := Lib.hid (sub_step (s := r) (x := x) (y := y) (c := bw) (c' := 0) hv.out (by omega))
          have HXE := Lib.hid hxe; have HYE := Lib.hid hye
          have e3 : (r : Int) % 4294967296 = (r : Int) := by omega
          clear hxe hye
          have hy0 : y = 0 := by rw [← HYE.out]; exact dg_high (by rw [Hle2.out]; omega)
          subst hy0
          obtain ⟨t, ht⟩ : ∃ t : Int, (x : Int) - (bw : Int) = t := ⟨_, rfl⟩
          have t3 : -8589934592 ≤ t := by omega
          have t4 : t < 4294967296 := by omega
          have t5 : ¬ t < 0 := by omega
          have t6 : t % 4294967296 = (r : Int) := by omega
          clear e3
          clear hr hyl hxl
          go_wp2_with (at_builtin; refine app1 rfl _ _ rfl w.heap.size Ao k co F (by rfl) (hO.out.ext (Ext.alloc _ _)) _ 1 r (by rfl) (by go_simp <;> omega) (by omega) (by have := hX.out.size; simp; omega) ?_; intro g cap w2 hrow hg hat hlt2; have HR := Lib.hid hrow; have HX2 : Hid (Ext w w2) := ext_app (hX.out.trans (Ext.alloc _ _)) (hO.out.ext (Ext.alloc _ _)) hg; clear hrow hg hat hlt2)
          go_roundw
          case rel =>
            refine ⟨k + 1, 0, some ⟨g, 0, none⟩, cap, upd F k r, by omega, by go_num, by go_num, rfl, by omega, HR.out.on, HX2, ?_, ?_⟩
            · exact fun i hi => by
                by_cases e : i = k
                · subst e; rw [upd_same]; exact hrb
                · rw [upd_ne _ e]; exact hB.out i (by omega)
            · show _ = _
              rw [pB_succ, valN_upd, valN, valN, HXE.out, HYE.out]
              have := hs.out
              omega
          case measure => simp [intOf]; omega

    · obtain rfl : k = L := by omega
      have hE : Hid (valN F k = m - n) := by
        show _ = _
        have h1 := hv.out
        rw [valN_dg_all (m := m) (by rw [Hle.out]; omega), valN_dg_all (m := n) (by rw [Hle2.out]; omega)] at h1
        exact minus_end h1 (valN_lt hB.out) HMN.out hbw
      clear hv
      go_wp2_with (go_at_call 116; refine (rtrim_any _ _ _ _ _ hO.out.rd hB.out hO.out.ok.1 hO.out.ok.2.1).mono ?_; rintro e w4 ⟨rfl, rfl⟩)
      go_ret
      exact natRes_on hO.out hB.out hE.out rfl hX.out

end Go.Proofs.YtgmmcfnahfcadaaDoor

/- The reference's functions on absolute values, part 2: plus. -/
import Derived.Test.YtgmmcfnahfcadaaDoorRef
import Derived.Test.YtgmmcfnahfcadaaDoorNatd
namespace Go.Proofs.YtgmmcfnahfcadaaDoor
open Go.RowKit

set_option maxRecDepth 100000 in
set_option maxHeartbeats 1000000 in
theorem rplus_any (A B : Option Addr) (m n ca cb : Nat) (w : World) (ha : Rd w A (len m) (dg m)) (hb' : Rd w B (len n) (dg n)) (hL : len m ≤ 1073741824) (hM : len n ≤ 1073741824) :
    Calls Tryd.prog 83 #[.slice A (len m) ca, .slice B (len n) cb] w (NatRes (m + n) w) := by
  have HA := Lib.hid ha; clear ha
  have HB := Lib.hid hb'; clear hb'
  obtain ⟨la, hla⟩ : ∃ l, len m = l := ⟨_, rfl⟩
  obtain ⟨lb, hlb⟩ : ∃ l, len n = l := ⟨_, rfl⟩
  obtain ⟨L, hLe⟩ : ∃ L, max la lb = L := ⟨_, rfl⟩
  rw [hla] at hL HA ⊢
  rw [hlb] at hM HB ⊢
  have Hle := Lib.hid hla; clear hla
  have Hle2 := Lib.hid hlb; clear hlb
  have em : (if (la : Int) < (lb : Int) then (lb : Int) else (la : Int)) = (L : Int) := by split <;> omega
  have hLa : la ≤ L := by omega
  have hLb : lb ≤ L := by omega
  have hL3 : L ≤ 1073741824 := by omega
  have hLo : L = la ∨ L = lb := by omega
  clear hLe
  go_enter Tryd.func83, Tryd.ntmps83
  go_wp2
  go_loopw [5, 6, 7] (fun so sc si wr => ∃ (k cy : Nat) (Ao : Option Addr) (co : Nat) (F : Nat → Nat), k ≤ L ∧ si = I k ∧ sc = U8 cy ∧ so = .slice Ao k co ∧ cy ≤ 1 ∧ Hid (On wr w.heap.size Ao k co F) ∧ Hid (Ext w wr) ∧ Hid (∀ i, i < k → F i < 4294967296) ∧ Hid (valN F k + cy * pB k = valN (dg m) k + valN (dg n) k)) (fun _ _ si _ => L - (intOf si).toNat)
  case atStart => exact ⟨0, 0, none, 0, fun _ => 0, Nat.zero_le _, rfl, rfl, rfl, by omega, On.nil _ _ _, Ext.refl _, (fun i hi => by omega), by show _ = _; simp [valN]⟩
  case round =>
    obtain ⟨k, cy, Ao, co, F, hk, rfl, rfl, rfl, hcy, hO, hX, hB, hv⟩ := hrel
    by_cases hlt : k < L
    · have hxl := dg_lt m k
      have hyl := dg_lt n k
      obtain ⟨x, hxe⟩ : ∃ x, dg m k = x := ⟨_, rfl⟩
      obtain ⟨y, hye⟩ : ∃ y, dg n k = y := ⟨_, rfl⟩
      rw [hxe] at hxl
      rw [hye] at hyl
      by_cases hp : k < la
      · by_cases hq : k < lb
        · have hpq := hp
          clear hpq
          obtain ⟨t, ht⟩ : ∃ t, cy + x + y = t := ⟨_, rfl⟩
          obtain ⟨b2, o2, rfl, hb2, c2⟩ := (HA.out.ext hX.out).at_ hp
          rw [hxe] at c2
          obtain ⟨b3, o3, rfl, hb3, c3⟩ := (HB.out.ext hX.out).at_ hq
          rw [hye] at c3
          obtain ⟨lo, hlo⟩ : ∃ lo, t % 4294967296 = lo := ⟨_, rfl⟩
          obtain ⟨hi, hhi⟩ : ∃ hi, t / 4294967296 = hi := ⟨_, rfl⟩
          have hs := Lib.hid (add_step (s := lo) (x := x) (y := y) (c := cy) (c' := hi) hv.out (by omega))
          have e3 : (t : Int) % 4294967296 = (lo : Int) := by omega
          have e4 : (t : Int) / 4294967296 = (hi : Int) := by omega
          have hi1 : hi ≤ 1 := by omega
          have hlob : lo < 4294967296 := by omega
          have ht2 : t < 12884901888 := by omega
          have e2 : (cy : Int) + (x : Int) + (y : Int) = (t : Int) := by omega
          have HXE := Lib.hid hxe; have HYE := Lib.hid hye
          clear hlo hhi ht hxe hye hxl hyl
          go_wp2_with (at_builtin; refine app1 rfl _ _ rfl w.heap.size Ao k co F (by rfl) (hO.out.ext (Ext.alloc _ _)) _ 1 lo (by rfl) (by go_simp) (by omega) (by have := hX.out.size; simp; omega) ?_; intro g cap w2 hrow hg hat hlt2; have HR := Lib.hid hrow; have HX2 : Hid (Ext w w2) := ext_app (hX.out.trans (Ext.alloc _ _)) (hO.out.ext (Ext.alloc _ _)) hg; clear hrow hg hat hlt2)
          go_roundw
          case rel =>
            refine ⟨k + 1, hi, some ⟨g, 0, none⟩, cap, upd F k lo, by omega, by go_num, rfl, rfl, hi1, HR.out.on, HX2, ?_, ?_⟩
            · exact fun i hi => by
                by_cases e : i = k
                · subst e; rw [upd_same]; exact hlob
                · rw [upd_ne _ e]; exact hB.out i (by omega)
            · show _ = _
              rw [pB_succ, valN_upd, valN, valN, HXE.out, HYE.out]
              have := hs.out
              omega
          case measure => simp [intOf]; omega

        · have hpq := hp
          clear hpq
          obtain ⟨t, ht⟩ : ∃ t, cy + x + y = t := ⟨_, rfl⟩
          obtain ⟨b2, o2, rfl, hb2, c2⟩ := (HA.out.ext hX.out).at_ hp
          rw [hxe] at c2
          have hy0 : y = 0 := by rw [← hye]; exact dg_high (by rw [Hle2.out]; omega)
          obtain ⟨lo, hlo⟩ : ∃ lo, t % 4294967296 = lo := ⟨_, rfl⟩
          obtain ⟨hi, hhi⟩ : ∃ hi, t / 4294967296 = hi := ⟨_, rfl⟩
          have hs := Lib.hid (add_step (s := lo) (x := x) (y := y) (c := cy) (c' := hi) hv.out (by omega))
          have e3 : (t : Int) % 4294967296 = (lo : Int) := by omega
          have e4 : (t : Int) / 4294967296 = (hi : Int) := by omega
          have hi1 : hi ≤ 1 := by omega
          have hlob : lo < 4294967296 := by omega
          have ht2 : t < 12884901888 := by omega
          have e2 : (cy : Int) + (x : Int) = (t : Int) := by omega
          have HXE := Lib.hid hxe; have HYE := Lib.hid hye
          clear hlo hhi ht hxe hye hxl hyl
          go_wp2_with (at_builtin; refine app1 rfl _ _ rfl w.heap.size Ao k co F (by rfl) (hO.out.ext (Ext.alloc _ _)) _ 1 lo (by rfl) (by go_simp) (by omega) (by have := hX.out.size; simp; omega) ?_; intro g cap w2 hrow hg hat hlt2; have HR := Lib.hid hrow; have HX2 : Hid (Ext w w2) := ext_app (hX.out.trans (Ext.alloc _ _)) (hO.out.ext (Ext.alloc _ _)) hg; clear hrow hg hat hlt2)
          go_roundw
          case rel =>
            refine ⟨k + 1, hi, some ⟨g, 0, none⟩, cap, upd F k lo, by omega, by go_num, rfl, rfl, hi1, HR.out.on, HX2, ?_, ?_⟩
            · exact fun i hi => by
                by_cases e : i = k
                · subst e; rw [upd_same]; exact hlob
                · rw [upd_ne _ e]; exact hB.out i (by omega)
            · show _ = _
              rw [pB_succ, valN_upd, valN, valN, HXE.out, HYE.out]
              have := hs.out
              omega
          case measure => simp [intOf]; omega

      · by_cases hq : k < lb
        · have hpq := hq
          clear hpq
          obtain ⟨t, ht⟩ : ∃ t, cy + x + y = t := ⟨_, rfl⟩
          have hx0 : x = 0 := by rw [← hxe]; exact dg_high (by rw [Hle.out]; omega)
          obtain ⟨b3, o3, rfl, hb3, c3⟩ := (HB.out.ext hX.out).at_ hq
          rw [hye] at c3
          obtain ⟨lo, hlo⟩ : ∃ lo, t % 4294967296 = lo := ⟨_, rfl⟩
          obtain ⟨hi, hhi⟩ : ∃ hi, t / 4294967296 = hi := ⟨_, rfl⟩
          have hs := Lib.hid (add_step (s := lo) (x := x) (y := y) (c := cy) (c' := hi) hv.out (by omega))
          have e3 : (t : Int) % 4294967296 = (lo : Int) := by omega
          have e4 : (t : Int) / 4294967296 = (hi : Int) := by omega
          have hi1 : hi ≤ 1 := by omega
          have hlob : lo < 4294967296 := by omega
          have ht2 : t < 12884901888 := by omega
          have e2 : (cy : Int) + (y : Int) = (t : Int) := by omega
          have HXE := Lib.hid hxe; have HYE := Lib.hid hye
          clear hlo hhi ht hxe hye hxl hyl
          go_wp2_with (at_builtin; refine app1 rfl _ _ rfl w.heap.size Ao k co F (by rfl) (hO.out.ext (Ext.alloc _ _)) _ 1 lo (by rfl) (by go_simp) (by omega) (by have := hX.out.size; simp; omega) ?_; intro g cap w2 hrow hg hat hlt2; have HR := Lib.hid hrow; have HX2 : Hid (Ext w w2) := ext_app (hX.out.trans (Ext.alloc _ _)) (hO.out.ext (Ext.alloc _ _)) hg; clear hrow hg hat hlt2)
          go_roundw
          case rel =>
            refine ⟨k + 1, hi, some ⟨g, 0, none⟩, cap, upd F k lo, by omega, by go_num, rfl, rfl, hi1, HR.out.on, HX2, ?_, ?_⟩
            · exact fun i hi => by
                by_cases e : i = k
                · subst e; rw [upd_same]; exact hlob
                · rw [upd_ne _ e]; exact hB.out i (by omega)
            · show _ = _
              rw [pB_succ, valN_upd, valN, valN, HXE.out, HYE.out]
              have := hs.out
              omega
          case measure => simp [intOf]; omega

        · exfalso; omega
    · obtain rfl : k = L := by omega
      have hE : Hid (valN (upd F k cy) (k + 1) = m + n) := by
        show _ = _
        have := hv.out
        rw [valN_upd, this, valN_dg_all (by rw [Hle.out]; omega), valN_dg_all (by rw [Hle2.out]; omega)]
      have hBB : Hid (∀ i, i < k + 1 → upd F k cy i < 4294967296) := fun i hi => by
        by_cases e : i = k
        · subst e; rw [upd_same]; omega
        · rw [upd_ne _ e]; exact hB.out i (by omega)
      have e3 : (cy : Int) % 4294967296 = (cy : Int) := by omega
      clear hv hB
      go_wp2_with (first
        | (at_builtin; refine app1 rfl _ _ rfl w.heap.size Ao k co F (by rfl) (hO.out.ext (Ext.alloc _ _)) _ 1 cy (by rfl) (by go_simp) (by omega) (by have := hX.out.size; simp; omega) ?_; intro g cap w2 hrow hg hat hlt2; have HR := Lib.hid hrow; have HX2 : Hid (Ext w w2) := ext_app (hX.out.trans (Ext.alloc _ _)) (hO.out.ext (Ext.alloc _ _)) hg; clear hrow hg hat hlt2)
        | (go_at_call 116; refine (rtrim_any _ _ _ _ _ HR.out.rd hBB.out HR.out.cap.1 HR.out.cap.2).mono ?_; rintro e w4 ⟨rfl, rfl⟩))
      all_goals
        go_ret
        exact natRes_of HR.out hBB.out hE.out rfl HX2.out

end Go.Proofs.YtgmmcfnahfcadaaDoor

/- The law DyadicFinest. -/
import Derived.Test.YtgmmcfnahfcadaaDoorRefo
import Derived.Test.YtgmmcfnahfcadaaDoorRefj
import Derived.Test.YtgmmcfnahfcadaaDoorLawo
import Derived.Deep.RegionHeld3
import Derived.Deep.DeepCutAuto
namespace Go.Proofs.YtgmmcfnahfcadaaDoor
open Go.RowKit

theorem same_z {w : World} {A : Option Addr} {c : Nat} : Calls Tryd.prog 21 #[dv false A 0 c 0, dv false none 0 0 0] w fun e w' => e = .returned (.bool true) ∧ Ext w w' := by
  have := same_true (w := w) (d := DV.zero) (A := A) (B := none) (ca := c) (cb := 0) (by rw [zero_len]; exact fun h => absurd h (Nat.lt_irrefl 0)) (by rw [zero_len]; exact Rd.none_) (by rw [zero_len]; decide)
  rw [zero_len] at this
  exact this
theorem shift_z {w : World} {neg : Bool} {A A' : Option Addr} {n c c' : Nat} {den : Int} {d : DV} (s : Int) (hz : shiftD d s = DV.zero) (h : Dy w neg A n c den d A' c') (hT : Tabs w) (hs1 : -9223372036854775808 ≤ s) (hs2 : s ≤ 9223372036854775807) :
    Calls Tryd.prog 31 #[dv neg A n c den, I s] w fun e w' => ∃ B k, e = .returned (dv false B 0 k 0) ∧ Ext w w' := by
  refine (shift_any s h hT hs1 hs2).mono ?_
  rw [hz]
  rintro e w' ⟨B, k, rfl, _, hx⟩
  refine ⟨B, k, ?_, hx⟩
  rw [zero_len]; rfl
theorem fine_zero {n : Int} (h1 : -9223372036854775808 ≤ n) (h2 : n ≤ 9223372036854775807) : shiftD (ofI n 65536) (-65536) = DV.zero := by
  have hm : (ofI n 65536).m ≤ n.natAbs := mkD_m_le _ _ _
  have hn : n.natAbs < 2 ^ 64 := by omega
  have ok := ofI_ok n 65536
  have hc : clampN (-65536) = -65536 := by unfold clampN; omega
  unfold shiftD
  rw [hc, if_pos (by omega)]
  by_cases h0 : n.natAbs = 0
  · have : (ofI n 65536).m = 0 := by omega
    rw [this]
    unfold mkD
    split
    · rw [nrm_zero]
    · rw [Nat.zero_div, nrm_zero]
  · have hd : (ofI n 65536).den = 65536 - hv n.natAbs 65536 := by
      unfold ofI; rw [mkD_small (Nat.le_refl _), nrm_pos _ _ h0]
    have hv64 : hv n.natAbs 65536 < 64 := by
      rcases Nat.lt_or_ge (hv n.natAbs 65536) 64 with h | h
      · exact h
      · exfalso
        have hp := hv_div_pos (k := 65536) h0
        rw [Nat.div_eq_of_lt (Nat.lt_of_lt_of_le hn (Nat.pow_le_pow_right (by decide) h))] at hp
        exact hp rfl
    have hbig : 64 ≤ (ofI n 65536).den := by omega
    unfold mkD
    rw [if_neg (by omega)]
    have : (ofI n 65536).m / 2 ^ ((ofI n 65536).den + (- -65536 : Int).toNat - 65536) = 0 := by
      refine Nat.div_eq_of_lt (Nat.lt_of_lt_of_le (Nat.lt_of_le_of_lt hm hn) (Nat.pow_le_pow_right (by decide) ?_))
      omega
    rw [this, nrm_zero]

set_option maxRecDepth 100000 in
set_option maxHeartbeats 8000000 in
theorem finest_true {w : World} {n y : Int} (hT : Tabs w) (h1 : -9223372036854775808 ≤ n) (h2 : n ≤ 9223372036854775807) (h3 : -9223372036854775808 ≤ y) (h4 : y ≤ 9223372036854775807) :
    Calls Tryd.prog 10 #[I n, I y] w fun e w' => e = .returned (.bool true) ∧ Ext w w' := by
  have HT0 := Lib.hid hT; clear hT
  have ln := len_abs h1 h2
  have ly := len_abs h3 h4
  have hz := fine_zero h1 h2
  obtain ⟨a, ha⟩ : ∃ x, ofI n 65536 = x := ⟨_, rfl⟩
  obtain ⟨b, hb⟩ : ∃ x, ofI y 3 = x := ⟨_, rfl⟩
  obtain ⟨mab, hmab⟩ : ∃ x, mulD a b = x := ⟨_, rfl⟩
  obtain ⟨sh, hsh⟩ : ∃ x, shiftD a (-2) = x := ⟨_, rfl⟩
  have Ea : Hid (ofI n 65536 = a) := ha
  have Eb : Hid (ofI y 3 = b) := hb
  have la : len a.m ≤ 2 := by rw [← ha]; exact Nat.le_trans (len_mono (mkD_m_le _ _ _)) ln
  have lb : len b.m ≤ 2 := by rw [← hb]; exact Nat.le_trans (len_mono (mkD_m_le _ _ _)) ly
  have Wa : Hid (a.ok ∧ len a.m ≤ 16777216) := ⟨ha ▸ ofI_ok _ _, by omega⟩
  have Wb : Hid (b.ok ∧ len b.m ≤ 16777216) := ⟨hb ▸ ofI_ok _ _, by omega⟩
  have Emab : Hid (mulD a b = mab) := hmab
  have Esh : Hid (shiftD a (-2) = sh) := hsh
  have Ezz : Hid (shiftD a (-65536) = DV.zero) := by show _ = _; rw [← ha]; exact hz
  have Eaz : Hid (addD a DV.zero = a) := add_zero_D Wa.out.1
  have Wmab : Hid (mab.ok ∧ len mab.m ≤ 16777216) := ⟨hmab ▸ mulD_ok _ _, by have := lim_mul a b; rw [hmab] at this; omega⟩
  have Wsh : Hid (sh.ok ∧ len sh.m ≤ 16777216) := ⟨hsh ▸ shiftD_ok _ _, by have := lim_shift a (-2); rw [hsh] at this; omega⟩
  have La : Hid (len a.m ≤ 1073741824) := by have := Wa.out.2; show _ ≤ _; omega
  have Lmab : Hid (len mab.m ≤ 1073741824) := by have := Wmab.out.2; show _ ≤ _; omega
  have Lsh : Hid (len sh.m ≤ 1073741824) := by have := Wsh.out.2; show _ ≤ _; omega
  clear ha hb hmab hsh la lb ln ly hz
  go_enter Tryd.func10, Tryd.ntmps10
  go_wp2_with (first
    | (go_at_call 14; refine (awake_any _ HT0.out).mono ?_; rintro e w0 ⟨rfl, hx⟩; have X0 := Lib.hid hx; clear hx)
    | (have hg := X1; clear hg; go_at_call 49; refine (make_any y 3 _ (HT0.out.ext (X1.out.trans (Ext.alloc _ _))) h3 h4 (by omega)).mono ?_; rw [Eb.out]; rintro e w2 ⟨B, c2, rfl, hon, hx⟩; have D2 := Lib.hid (Dy.at_ hon Wb.out.1 Wb.out.2); have V2 := Lib.hid hx; have X2 := Lib.hid ((Ext.alloc _ _).trans hx); have S2 := Lib.hid (St.new w2 (.bool b.neg) (.slice B (len b.m) c2) (I b.den) 24); clear hon hx)
    | (go_at_call 49; refine (make_any n 65536 _ (HT0.out.ext X0.out) h1 h2 (by omega)).mono ?_; rw [Ea.out]; rintro e w1 ⟨A, c1, rfl, hon, hx⟩; have D1 := Lib.hid (Dy.at_ hon Wa.out.1 Wa.out.2); have X1 := Lib.hid (X0.out.trans hx); have S1 := Lib.hid (St.new w1 (.bool a.neg) (.slice A (len a.m) c1) (I a.den) 24); clear hon hx))
  have HA0 := Lib.hid (D1.out (w2.alloc (.cells #[.bool b.neg, .slice B (len b.m) c2, I b.den] 24)) (X2.out.trans (Ext.alloc _ _)))
  have HB0 := Lib.hid (D2.out (w2.alloc (.cells #[.bool b.neg, .slice B (len b.m) c2, I b.den] 24)) (Ext.alloc _ _))
  have T1 := Lib.hid (S1.out.ext (V2.out.trans (Ext.alloc w2 (.cells #[.bool b.neg, .slice B (len b.m) c2, I b.den] 24))))
  have T2 := Lib.hid S2.out
  have XW := Lib.hid ((X1.out.trans X2.out).trans (Ext.alloc w2 (.cells #[.bool b.neg, .slice B (len b.m) c2, I b.den] 24)))
  clear S1 S2 D1 D2 V2 X2 X1 X0
  generalize (w2.alloc (.cells #[.bool b.neg, .slice B (len b.m) c2, I b.den] 24)) = W at *
  generalize w1.heap.size = g1 at *
  generalize w2.heap.size = g2 at *
  have HT := Lib.hid (HT0.out.ext XW.out)
  have HA := Lib.hid HA0.out
  have HB := Lib.hid HB0.out
  have HEW := Lib.hid (Ext.drew W)
  have HS : Hid (∀ w', Ext W.drew w' → w'.cell? ⟨g1, 0, none⟩ = some (.bool a.neg) ∧ w'.cell? ⟨g1, 1, none⟩ = some (.slice A (len a.m) c1) ∧ w'.cell? ⟨g1, 2, none⟩ = some (I a.den) ∧ w'.cell? ⟨g2, 0, none⟩ = some (.bool b.neg) ∧ w'.cell? ⟨g2, 1, none⟩ = some (.slice B (len b.m) c2) ∧ w'.cell? ⟨g2, 2, none⟩ = some (I b.den)) := fun w' e => by
    obtain ⟨p0, p1, p2⟩ := T1.out.ext ((Ext.drew _).trans e)
    obtain ⟨q0, q1, q2⟩ := T2.out.ext ((Ext.drew _).trans e)
    exact ⟨p0, p1, p2, q0, q1, q2⟩
  clear T1 T2 HA0 HB0
  have hk := HS.out _ (Ext.refl _)
  go_region_held3 (fun w' => w'.cell? ⟨g1, 0, none⟩ = some (.bool a.neg) ∧ w'.cell? ⟨g1, 1, none⟩ = some (.slice A (len a.m) c1) ∧ w'.cell? ⟨g1, 2, none⟩ = some (I a.den) ∧ w'.cell? ⟨g2, 0, none⟩ = some (.bool b.neg) ∧ w'.cell? ⟨g2, 1, none⟩ = some (.slice B (len b.m) c2) ∧ w'.cell? ⟨g2, 2, none⟩ = some (I b.den)) (first | assumption | exact hk)
    (first
      | (have hg := HE9; clear hg; go_at_call 21; (with_reducible refine (same_z).mono ?_); rintro e w10 ⟨rfl, hx⟩; have HE10 := Lib.hid hx; clear hx hk; have hk := HS.out _ (((((((((HE1.out.trans HE2.out).trans HE3.out).trans HE4.out).trans HE5.out).trans HE6.out).trans HE7.out).trans HE8.out).trans HE9.out).trans HE10.out))
      | (have hg := HE8; clear hg; go_at_call 31; (with_reducible refine (shift_z (-65536) Ezz.out (HA.out.ext (HEW.out.trans (((((((HE1.out.trans HE2.out).trans HE3.out).trans HE4.out).trans HE5.out).trans HE6.out).trans HE7.out).trans HE8.out))) (HT.out.ext (HEW.out.trans (((((((HE1.out.trans HE2.out).trans HE3.out).trans HE4.out).trans HE5.out).trans HE6.out).trans HE7.out).trans HE8.out))) (by omega) (by omega)).mono ?_); rintro e w9 ⟨Az, cz, rfl, hx⟩; have HE9 := Lib.hid hx; clear hx hk; have hk := HS.out _ ((((((((HE1.out.trans HE2.out).trans HE3.out).trans HE4.out).trans HE5.out).trans HE6.out).trans HE7.out).trans HE8.out).trans HE9.out))
      | (have hg := HE7; clear hg; go_at_call 21; (with_reducible refine (same_true (d := sh) (HI4.out _ HE7.out).rd (HI5.out _ (Ext.refl _)).rd Lsh.out).mono ?_); rintro e w8 ⟨rfl, hx⟩; have HE8 := Lib.hid hx; clear hx hk; have hk := HS.out _ (((((((HE1.out.trans HE2.out).trans HE3.out).trans HE4.out).trans HE5.out).trans HE6.out).trans HE7.out).trans HE8.out))
      | (have hg := HE6; clear hg; go_at_call 43; (with_reducible refine (rshift_any2 (-2) (HA.out.ext (HEW.out.trans (((((HE1.out.trans HE2.out).trans HE3.out).trans HE4.out).trans HE5.out).trans HE6.out))) (by omega) (by omega)).mono ?_); rw [Esh.out]; rintro e w7 ⟨A5, c5, rfl, hon, hx⟩; have HE7 := Lib.hid hx; have HI5 := Lib.hid (Dy.at_ hon Wsh.out.1 Wsh.out.2); clear hon; clear hx hk; have hk := HS.out _ ((((((HE1.out.trans HE2.out).trans HE3.out).trans HE4.out).trans HE5.out).trans HE6.out).trans HE7.out))
      | (have hg := HE5; clear hg; go_at_call 31; (with_reducible refine (shift_any (-2) (HA.out.ext (HEW.out.trans ((((HE1.out.trans HE2.out).trans HE3.out).trans HE4.out).trans HE5.out))) (HT.out.ext (HEW.out.trans ((((HE1.out.trans HE2.out).trans HE3.out).trans HE4.out).trans HE5.out))) (by omega) (by omega)).mono ?_); rw [Esh.out]; rintro e w6 ⟨A4, c4, rfl, hon, hx⟩; have HE6 := Lib.hid hx; have HI4 := Lib.hid (Dy.at_ hon Wsh.out.1 Wsh.out.2); clear hon; clear hx hk; have hk := HS.out _ (((((HE1.out.trans HE2.out).trans HE3.out).trans HE4.out).trans HE5.out).trans HE6.out))
      | (have hg := HE4; clear hg; go_at_call 21; (with_reducible refine (same_true (d := mab) (HI2.out _ HE4.out).rd (HI3.out _ (Ext.refl _)).rd Lmab.out).mono ?_); rintro e w5 ⟨rfl, hx⟩; have HE5 := Lib.hid hx; clear hx hk; have hk := HS.out _ ((((HE1.out.trans HE2.out).trans HE3.out).trans HE4.out).trans HE5.out))
      | (have hg := HE3; clear hg; go_at_call 42; (with_reducible refine (rmul_any (HA.out.ext (HEW.out.trans ((HE1.out.trans HE2.out).trans HE3.out))) (HB.out.ext (HEW.out.trans ((HE1.out.trans HE2.out).trans HE3.out)))).mono ?_); rw [Emab.out]; rintro e w4 ⟨A3, c3, rfl, hon, hx⟩; have HE4 := Lib.hid hx; have HI3 := Lib.hid (Dy.at_ hon Wmab.out.1 Wmab.out.2); clear hon; clear hx hk; have hk := HS.out _ (((HE1.out.trans HE2.out).trans HE3.out).trans HE4.out))
      | (have hg := HE2; clear hg; go_at_call 30; (with_reducible refine (mul_any (HA.out.ext (HEW.out.trans (HE1.out.trans HE2.out))) (HB.out.ext (HEW.out.trans (HE1.out.trans HE2.out))) (HT.out.ext (HEW.out.trans (HE1.out.trans HE2.out)))).mono ?_); rw [Emab.out]; rintro e w3 ⟨A2, c2, rfl, hon, hx⟩; have HE3 := Lib.hid hx; have HI2 := Lib.hid (Dy.at_ hon Wmab.out.1 Wmab.out.2); clear hon; clear hx hk; have hk := HS.out _ ((HE1.out.trans HE2.out).trans HE3.out))
      | (have hg := HE1; clear hg; go_at_call 21; (with_reducible refine (same_true (d := a) (HA.out.ext (HEW.out.trans HE1.out)).rd (HI1.out _ (Ext.refl _)).rd La.out).mono ?_); rintro e w2 ⟨rfl, hx⟩; have HE2 := Lib.hid hx; clear hx hk; have hk := HS.out _ (HE1.out.trans HE2.out))
      | (go_at_call 34; (with_reducible refine (radd_any (HA.out.ext (HEW.out.trans (Ext.refl _))) (Dy.zero _)).mono ?_); rw [Eaz.out]; rintro e w1 ⟨A1, c1, rfl, hon, hx⟩; have HE1 := Lib.hid hx; have HI1 := Lib.hid (Dy.at_ hon Wa.out.1 Wa.out.2); clear hon; clear hx hk; have hk := HS.out _ HE1.out))
  all_goals
    go_wp2_with fail
    go_ret
    exact ⟨rfl, XW.out.trans (HEW.out.trans (((((((((HE1.out.trans HE2.out).trans HE3.out).trans HE4.out).trans HE5.out).trans HE6.out).trans HE7.out).trans HE8.out).trans HE9.out).trans HE10.out))⟩

end Go.Proofs.YtgmmcfnahfcadaaDoor

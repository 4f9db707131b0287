/- The law DyadicMuls. -/
import Derived.Test.YtgmmcfnahfcadaaDoorRefo
import Derived.Test.YtgmmcfnahfcadaaDoorBit
import Derived.Test.YtgmmcfnahfcadaaDoorLawo
import Derived.Deep.RegionHeld3
import Derived.Deep.DeepCutAuto
namespace Go.Proofs.YtgmmcfnahfcadaaDoor
open Go.RowKit

set_option maxRecDepth 100000 in
set_option maxHeartbeats 1000000 in
theorem muls_off {w : World} {na nb : Bool} {A B : Option Addr} {a0 a1 b0 b1 : Nat} {da db : Int} {nn : Int} (hT : Tabs w) (h : ¬ (fewOk a0 da ∧ fewOk b0 db)) :
    Calls Tryd.prog 5 #[dv na A a0 a1 da, dv nb B b0 b1 db, I nn] w fun e w' => e = .returned (.bool true) ∧ Ext w w' := by
  have HT := Lib.hid hT; clear hT
  have HFW := Lib.hid (few2_not h)
  clear h
  go_enter Tryd.func5, Tryd.ntmps5
  go_wp2_with fail
  have HN := Lib.hid (nums2 ((w.alloc (.cells #[.bool na, .slice A a0 a1, I da] 24)).alloc (.cells #[.bool nb, .slice B b0 b1, I db] 24)) (w.heap.size + 1 + 1) (by simp) na nb A B a0 b0 a1 b1 da db 24)
  with_reducible refine (few_false HN.out (by simp) (by omega) HFW.out).mono ?_
  rintro e wf ⟨rfl, hx⟩
  have HEF : Hid (Ext w wf) := ((((Ext.alloc _ _).trans (Ext.alloc _ _)).trans (Ext.alloc _ _))).trans hx
  clear hx
  go_wp2_with fail
  refine (awake_any _ (HT.out.ext HEF.out)).mono ?_
  rintro e w0 ⟨rfl, hx⟩
  have HEW := Lib.hid (HEF.out.trans hx)
  clear hx
  go_wp2_with fail
  go_ret
  exact ⟨rfl, HEW.out⟩

set_option maxRecDepth 100000 in
set_option maxHeartbeats 2000000 in
theorem muls_off2 {w : World} {na nb : Bool} {A B : Option Addr} {a0 a1 b0 b1 : Nat} {da db : Int} {nn : Int} (hT : Tabs w) (fa : fewOk a0 da) (fb : fewOk b0 db) (hn : (-1099511627776 < nn ∧ nn < -400) ∨ (400 < nn ∧ nn < 1099511627776)) :
    Calls Tryd.prog 5 #[dv na A a0 a1 da, dv nb B b0 b1 db, I nn] w fun e w' => e = .returned (.bool true) ∧ Ext w w' := by
  have HT := Lib.hid hT; clear hT
  have HFW := Lib.hid (few2 fa fb)
  clear fa fb
  rcases hn with ⟨hn3, hn4⟩ | ⟨hn3, hn4⟩
  all_goals
    go_enter Tryd.func5, Tryd.ntmps5
    go_wp2_with fail
    have HN := Lib.hid (nums2 ((w.alloc (.cells #[.bool na, .slice A a0 a1, I da] 24)).alloc (.cells #[.bool nb, .slice B b0 b1, I db] 24)) (w.heap.size + 1 + 1) (by simp) na nb A B a0 b0 a1 b1 da db 24)
    with_reducible refine (few_true HN.out (by simp) (by omega) HFW.out).mono ?_
    rintro e wf ⟨rfl, hx⟩
    have HEF : Hid (Ext w wf) := ((((Ext.alloc _ _).trans (Ext.alloc _ _)).trans (Ext.alloc _ _))).trans hx
    clear hx
    go_wp2_with fail
    refine (awake_any _ (HT.out.ext HEF.out)).mono ?_
    rintro e w0 ⟨rfl, hx⟩
    have HEW := Lib.hid (HEF.out.trans hx)
    clear hx
    go_wp2_with fail
    go_ret
    exact ⟨rfl, HEW.out⟩

set_option maxRecDepth 100000 in
set_option maxHeartbeats 8000000 in
theorem muls_true {w : World} {na nb : Bool} {A A' B B' : Option Addr} {a0 a1 a2 b0 b1 b2 : Nat} {da db : Int} {a b : DV} {nn : Int} (hha : Dy w na A a0 a1 da a A' a2) (hhb : Dy w nb B b0 b1 db b B' b2) (hT : Tabs w)
    (fa : fewOk a0 da) (fb : fewOk b0 db) (sa : Sm a) (sb : Sm b)(hn1 : -9223372036854775808 ≤ nn) (hn2 : nn ≤ 9223372036854775807) (hn : nn ≤ -1099511627776 ∨ (-400 ≤ nn ∧ nn ≤ 400) ∨ 1099511627776 ≤ nn) :
    Calls Tryd.prog 5 #[dv na A a0 a1 da, dv nb B b0 b1 db, I nn] w fun e w' => e = .returned (.bool true) ∧ Ext w w' := by
  have HA := Lib.hid hha; have HB := Lib.hid hhb; have HT := Lib.hid hT; clear hha hhb hT
  obtain ⟨oa, la, ta⟩ := sa
  obtain ⟨ob, lb, tb⟩ := sb
  have HFW := Lib.hid (few2 fa fb)
  clear fa fb
  obtain ⟨mab, hmab⟩ : ∃ x, mulD a b = x := ⟨_, rfl⟩
  obtain ⟨sh, hsh⟩ : ∃ x, shiftD a nn = x := ⟨_, rfl⟩
  obtain ⟨bt, hbt⟩ : ∃ x, bitsN a.m = x := ⟨_, rfl⟩
  have Emab : Hid (mulD a b = mab) := hmab
  have Esh : Hid (shiftD a nn = sh) := hsh
  have Ebt : Hid (bitsN a.m = bt) := hbt
  have Wmab : Hid (mab.ok ∧ len mab.m ≤ 16777216) := ⟨hmab ▸ mulD_ok _ _, by have := lim_mul a b; rw [hmab] at this; omega⟩
  have Wsh : Hid (sh.ok ∧ len sh.m ≤ 16777216) := ⟨hsh ▸ shiftD_ok _ _, by have := lim_shift a nn; rw [hsh] at this; omega⟩
  have Lmab : Hid (len mab.m ≤ 1073741824) := by have := Wmab.out.2; show _ ≤ _; omega
  have Lsh : Hid (len sh.m ≤ 1073741824) := by have := Wsh.out.2; show _ ≤ _; omega
  clear hmab hsh hbt oa ob la lb ta tb
  rcases hn with hn3 | ⟨hn3, hn4⟩ | hn3
  all_goals
    go_enter Tryd.func5, Tryd.ntmps5
    go_wp2_with fail
    have HN := Lib.hid (nums2 ((w.alloc (.cells #[.bool na, .slice A a0 a1, I da] 24)).alloc (.cells #[.bool nb, .slice B b0 b1, I db] 24)) (w.heap.size + 1 + 1) (by simp) na nb A B a0 b0 a1 b1 da db 24)
    with_reducible refine (few_true HN.out (by simp) (by omega) HFW.out).mono ?_
    rintro e wf ⟨rfl, hx⟩
    have HEF : Hid (Ext w wf) := ((((Ext.alloc _ _).trans (Ext.alloc _ _)).trans (Ext.alloc _ _))).trans hx
    have Y0 : Hid (St wf (w.heap.size) (.bool na) (.slice A a0 a1) (I da)) := by
      have s := (Bx.new w (.bool na) (.slice A a0 a1) (I da) 24).1
      rw [show w.heap.size = w.heap.size by simp] at s
      exact (((s.ext (Ext.alloc _ _)).ext (Ext.alloc _ _))).ext hx
    have Y1 : Hid (St wf (w.heap.size + 1) (.bool nb) (.slice B b0 b1) (I db)) := by
      have s := (Bx.new (w.alloc (.cells #[.bool na, .slice A a0 a1, I da] 24)) (.bool nb) (.slice B b0 b1) (I db) 24).1
      rw [show (w.alloc (.cells #[.bool na, .slice A a0 a1, I da] 24)).heap.size = w.heap.size + 1 by simp] at s
      exact ((s.ext (Ext.alloc _ _))).ext hx
    clear hx HN HFW
    go_wp2_with fail
    refine (awake_any _ (HT.out.ext HEF.out)).mono ?_
    rintro e w0 ⟨rfl, hx⟩
    have HEW := Lib.hid ((HEF.out.trans hx).trans (Ext.drew _))
    have Z0 := Lib.hid (Y0.out.ext hx); have Z1 := Lib.hid (Y1.out.ext hx)
    have HS : Hid (∀ w', Ext w0.drew w' → w'.cell? ⟨w.heap.size, 0, none⟩ = some (.bool na) ∧ w'.cell? ⟨w.heap.size, 1, none⟩ = some (.slice A a0 a1) ∧ w'.cell? ⟨w.heap.size, 2, none⟩ = some (I da) ∧ w'.cell? ⟨w.heap.size + 1, 0, none⟩ = some (.bool nb) ∧ w'.cell? ⟨w.heap.size + 1, 1, none⟩ = some (.slice B b0 b1) ∧ w'.cell? ⟨w.heap.size + 1, 2, none⟩ = some (I db)) := fun w' e => by
      obtain ⟨p0, q0, r0⟩ := Z0.out.ext ((Ext.drew _).trans e)
      obtain ⟨p1, q1, r1⟩ := Z1.out.ext ((Ext.drew _).trans e)
      exact ⟨p0, q0, r0, p1, q1, r1⟩
    clear hx Z0 Z1 Y0 Y1
    have hk := HS.out _ (Ext.refl _)
    go_upto_region 3 with fail
    go_region_held3 (fun w' => w'.cell? ⟨w.heap.size, 0, none⟩ = some (.bool na) ∧ w'.cell? ⟨w.heap.size, 1, none⟩ = some (.slice A a0 a1) ∧ w'.cell? ⟨w.heap.size, 2, none⟩ = some (I da) ∧ w'.cell? ⟨w.heap.size + 1, 0, none⟩ = some (.bool nb) ∧ w'.cell? ⟨w.heap.size + 1, 1, none⟩ = some (.slice B b0 b1) ∧ w'.cell? ⟨w.heap.size + 1, 2, none⟩ = some (I db)) (first | assumption | exact hk)
      (first
        | (have hg := HE7; clear hg; go_at_call 45; (with_reducible refine (rbits_any (HA.out.ext (HEW.out.trans ((((((HE1.out.trans HE2.out).trans HE3.out).trans HE4.out).trans HE5.out).trans HE6.out).trans HE7.out)))).mono ?_); rw [Ebt.out]; rintro e w8 ⟨rfl, hx⟩; have HE8 := Lib.hid hx; clear hx hk; have hk := HS.out _ (((((((HE1.out.trans HE2.out).trans HE3.out).trans HE4.out).trans HE5.out).trans HE6.out).trans HE7.out).trans HE8.out))
        | (have hg := HE6; clear hg; go_at_call 44; (with_reducible refine (bits_any (HA.out.ext (HEW.out.trans (((((HE1.out.trans HE2.out).trans HE3.out).trans HE4.out).trans HE5.out).trans HE6.out)))).mono ?_); rw [Ebt.out]; rintro e w7 ⟨rfl, hx⟩; have HE7 := Lib.hid hx; clear hx hk; have hk := HS.out _ ((((((HE1.out.trans HE2.out).trans HE3.out).trans HE4.out).trans HE5.out).trans HE6.out).trans HE7.out))
        | (have hg := HE5; clear hg; go_at_call 21; (with_reducible refine (same_true (d := sh) (HI3.out _ HE5.out).rd (HI4.out _ (Ext.refl _)).rd Lsh.out).mono ?_); rintro e w6 ⟨rfl, hx⟩; have HE6 := Lib.hid hx; clear hx hk; have hk := HS.out _ (((((HE1.out.trans HE2.out).trans HE3.out).trans HE4.out).trans HE5.out).trans HE6.out))
        | (have hg := HE4; clear hg; go_at_call 43; (with_reducible refine (rshift_any2 nn (HA.out.ext (HEW.out.trans (((HE1.out.trans HE2.out).trans HE3.out).trans HE4.out))) hn1 hn2).mono ?_); rw [Esh.out]; rintro e w5 ⟨A4, c4, rfl, hon, hx⟩; have HE5 := Lib.hid hx; have HI4 := Lib.hid (Dy.at_ hon Wsh.out.1 Wsh.out.2); clear hon; clear hx hk; have hk := HS.out _ ((((HE1.out.trans HE2.out).trans HE3.out).trans HE4.out).trans HE5.out))
        | (have hg := HE3; clear hg; go_at_call 31; (with_reducible refine (shift_any nn (HA.out.ext (HEW.out.trans ((HE1.out.trans HE2.out).trans HE3.out))) (HT.out.ext (HEW.out.trans ((HE1.out.trans HE2.out).trans HE3.out))) hn1 hn2).mono ?_); rw [Esh.out]; rintro e w4 ⟨A3, c3, rfl, hon, hx⟩; have HE4 := Lib.hid hx; have HI3 := Lib.hid (Dy.at_ hon Wsh.out.1 Wsh.out.2); clear hon; clear hx hk; have hk := HS.out _ (((HE1.out.trans HE2.out).trans HE3.out).trans HE4.out))
        | (have hg := HE2; clear hg; go_at_call 21; (with_reducible refine (same_true (d := mab) (HI1.out _ HE2.out).rd (HI2.out _ (Ext.refl _)).rd Lmab.out).mono ?_); rintro e w3 ⟨rfl, hx⟩; have HE3 := Lib.hid hx; clear hx hk; have hk := HS.out _ ((HE1.out.trans HE2.out).trans HE3.out))
        | (have hg := HE1; clear hg; go_at_call 42; (with_reducible refine (rmul_any (HA.out.ext (HEW.out.trans HE1.out)) (HB.out.ext (HEW.out.trans HE1.out))).mono ?_); rw [Emab.out]; rintro e w2 ⟨A2, c2, rfl, hon, hx⟩; have HE2 := Lib.hid hx; have HI2 := Lib.hid (Dy.at_ hon Wmab.out.1 Wmab.out.2); clear hon; clear hx hk; have hk := HS.out _ (HE1.out.trans HE2.out))
        | (go_at_call 30; (with_reducible refine (mul_any (HA.out.ext (HEW.out.trans (Ext.refl _))) (HB.out.ext (HEW.out.trans (Ext.refl _))) (HT.out.ext (HEW.out.trans (Ext.refl _)))).mono ?_); rw [Emab.out]; rintro e w1 ⟨A1, c1, rfl, hon, hx⟩; have HE1 := Lib.hid hx; have HI1 := Lib.hid (Dy.at_ hon Wmab.out.1 Wmab.out.2); clear hon; clear hx hk; have hk := HS.out _ HE1.out))
    all_goals
      go_wp2_with fail
      go_ret
      exact ⟨rfl, HEW.out.trans (((((((HE1.out.trans HE2.out).trans HE3.out).trans HE4.out).trans HE5.out).trans HE6.out).trans HE7.out).trans HE8.out)⟩

end Go.Proofs.YtgmmcfnahfcadaaDoor

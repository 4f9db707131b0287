/- The law DyadicAdds. -/
import Derived.Test.YtgmmcfnahfcadaaDoorRefj
import Derived.Test.YtgmmcfnahfcadaaDoorLawo
import Derived.Deep.RegionHeld3
import Derived.Deep.DeepCutAuto
namespace Go.Proofs.YtgmmcfnahfcadaaDoor
open Go.RowKit

set_option maxRecDepth 100000 in
set_option maxHeartbeats 1000000 in
theorem adds_off {w : World} {na nb : Bool} {A B : Option Addr} {a0 a1 b0 b1 : Nat} {da db : Int} (hT : Tabs w) (h : ¬ (fewOk a0 da ∧ fewOk b0 db)) :
    Calls Tryd.prog 4 #[dv na A a0 a1 da, dv nb B b0 b1 db] w fun e w' => e = .returned (.bool true) ∧ Ext w w' := by
  have HT := Lib.hid hT; clear hT
  have HFW := Lib.hid (few2_not h)
  clear h
  go_enter Tryd.func4, Tryd.ntmps4
  go_wp2_with fail
  have HN := Lib.hid (nums2 ((w.alloc (.cells #[.bool na, .slice A a0 a1, I da] 24)).alloc (.cells #[.bool nb, .slice B b0 b1, I db] 24)) (w.heap.size + 1 + 1) (by simp) na nb A B a0 b0 a1 b1 da db 24)
  with_reducible refine (few_false HN.out (by simp) (by omega) HFW.out).mono ?_
  rintro e wf ⟨rfl, hx⟩
  have HEF : Hid (Ext w wf) := ((((Ext.alloc _ _).trans (Ext.alloc _ _)).trans (Ext.alloc _ _))).trans hx
  clear hx
  go_wp2_with fail
  refine (awake_any _ (HT.out.ext HEF.out)).mono ?_
  rintro e w0 ⟨rfl, hx⟩
  have HEW := Lib.hid (HEF.out.trans hx)
  clear hx
  go_wp2_with fail
  go_ret
  exact ⟨rfl, HEW.out⟩

set_option maxRecDepth 100000 in
set_option maxHeartbeats 8000000 in
theorem adds_true {w : World} {na nb : Bool} {A A' B B' : Option Addr} {a0 a1 a2 b0 b1 b2 : Nat} {da db : Int} {a b : DV} (hha : Dy w na A a0 a1 da a A' a2) (hhb : Dy w nb B b0 b1 db b B' b2) (hT : Tabs w)
    (fa : fewOk a0 da) (fb : fewOk b0 db) (sa : Sm a) (sb : Sm b) :
    Calls Tryd.prog 4 #[dv na A a0 a1 da, dv nb B b0 b1 db] w fun e w' => e = .returned (.bool true) ∧ Ext w w' := by
  have HA := Lib.hid hha; have HB := Lib.hid hhb; have HT := Lib.hid hT; clear hha hhb hT
  obtain ⟨oa, la, ta⟩ := sa
  obtain ⟨ob, lb, tb⟩ := sb
  have HFW := Lib.hid (few2 fa fb)
  clear fa fb
  obtain ⟨ab, hab⟩ : ∃ x, addD a b = x := ⟨_, rfl⟩
  obtain ⟨sb, hsb⟩ : ∃ x, subD a b = x := ⟨_, rfl⟩
  obtain ⟨na_, hna_⟩ : ∃ x, negD a = x := ⟨_, rfl⟩
  obtain ⟨aa, haa⟩ : ∃ x, absD a = x := ⟨_, rfl⟩
  obtain ⟨sg, hsg⟩ : ∃ x, signD a = x := ⟨_, rfl⟩
  obtain ⟨cm, hcm⟩ : ∃ x, cmpD a b = x := ⟨_, rfl⟩
  obtain ⟨mi, hmi⟩ : ∃ x, minD a b = x := ⟨_, rfl⟩
  obtain ⟨ma, hma⟩ : ∃ x, maxD a b = x := ⟨_, rfl⟩
  have Eab : Hid (addD a b = ab) := hab
  have Esb : Hid (subD a b = sb) := hsb
  have Ena : Hid (negD a = na_) := hna_
  have Eaa : Hid (absD a = aa) := haa
  have Esg : Hid (signD a = sg) := hsg
  have Ecm : Hid (cmpD a b = cm) := hcm
  have Emi : Hid (minD a b = mi) := hmi
  have Ema : Hid (maxD a b = ma) := hma
  have Wab : Hid (ab.ok ∧ len ab.m ≤ 16777216) := ⟨hab ▸ addD_ok _ _, by have := lim_add (a := a) (b := b) oa.2.1 ob.2.1; rw [hab] at this; omega⟩
  have Wsb : Hid (sb.ok ∧ len sb.m ≤ 16777216) := ⟨hsb ▸ subD_ok _ _, by have := lim_sub (a := a) (b := b) oa.2.1 ob.2.1; rw [hsb] at this; omega⟩
  have Wna_ : Hid (na_.ok ∧ len na_.m ≤ 16777216) := ⟨hna_ ▸ negD_ok _, by have := lim_neg a; rw [hna_] at this; omega⟩
  have Waa : Hid (aa.ok ∧ len aa.m ≤ 16777216) := ⟨haa ▸ absD_ok _, by have : len (absD a).m ≤ len a.m := len_mono (mkD_m_le _ _ _); rw [haa] at this; omega⟩
  have Wmi : Hid (mi.ok ∧ len mi.m ≤ 16777216) := ⟨hmi ▸ minD_ok oa ob, by rw [← hmi]; unfold minD; split <;> omega⟩
  have Wma : Hid (ma.ok ∧ len ma.m ≤ 16777216) := ⟨hma ▸ maxD_ok oa ob, by rw [← hma]; unfold maxD; split <;> omega⟩
  have LS : Hid ((subD a b).ok ∧ len (subD a b).m ≤ 16777216) := by show _ ∧ _; rw [hsb]; exact Wsb.out
  have Laa : Hid (len aa.m ≤ 1073741824) := by have := Waa.out.2; show _ ≤ _; omega
  have Lab : Hid (len ab.m ≤ 1073741824) := by have := Wab.out.2; show _ ≤ _; omega
  have Lma : Hid (len ma.m ≤ 1073741824) := by have := Wma.out.2; show _ ≤ _; omega
  have Lmi : Hid (len mi.m ≤ 1073741824) := by have := Wmi.out.2; show _ ≤ _; omega
  have Lna_ : Hid (len na_.m ≤ 1073741824) := by have := Wna_.out.2; show _ ≤ _; omega
  have Lsb : Hid (len sb.m ≤ 1073741824) := by have := Wsb.out.2; show _ ≤ _; omega
  clear hab hsb hna_ haa hsg hcm hmi hma oa ob la lb ta tb
  go_enter Tryd.func4, Tryd.ntmps4
  go_wp2_with fail
  have HN := Lib.hid (nums2 ((w.alloc (.cells #[.bool na, .slice A a0 a1, I da] 24)).alloc (.cells #[.bool nb, .slice B b0 b1, I db] 24)) (w.heap.size + 1 + 1) (by simp) na nb A B a0 b0 a1 b1 da db 24)
  with_reducible refine (few_true HN.out (by simp) (by omega) HFW.out).mono ?_
  rintro e wf ⟨rfl, hx⟩
  have HEF : Hid (Ext w wf) := ((((Ext.alloc _ _).trans (Ext.alloc _ _)).trans (Ext.alloc _ _))).trans hx
  have Y0 : Hid (St wf (w.heap.size) (.bool na) (.slice A a0 a1) (I da)) := by
    have s := (Bx.new w (.bool na) (.slice A a0 a1) (I da) 24).1
    rw [show w.heap.size = w.heap.size by simp] at s
    exact (((s.ext (Ext.alloc _ _)).ext (Ext.alloc _ _))).ext hx
  have Y1 : Hid (St wf (w.heap.size + 1) (.bool nb) (.slice B b0 b1) (I db)) := by
    have s := (Bx.new (w.alloc (.cells #[.bool na, .slice A a0 a1, I da] 24)) (.bool nb) (.slice B b0 b1) (I db) 24).1
    rw [show (w.alloc (.cells #[.bool na, .slice A a0 a1, I da] 24)).heap.size = w.heap.size + 1 by simp] at s
    exact ((s.ext (Ext.alloc _ _))).ext hx
  clear hx HN HFW
  go_wp2_with fail
  refine (awake_any _ (HT.out.ext HEF.out)).mono ?_
  rintro e w0 ⟨rfl, hx⟩
  have HEW := Lib.hid ((HEF.out.trans hx).trans (Ext.drew _))
  have Z0 := Lib.hid (Y0.out.ext hx); have Z1 := Lib.hid (Y1.out.ext hx)
  have HS : Hid (∀ w', Ext w0.drew w' → w'.cell? ⟨w.heap.size, 0, none⟩ = some (.bool na) ∧ w'.cell? ⟨w.heap.size, 1, none⟩ = some (.slice A a0 a1) ∧ w'.cell? ⟨w.heap.size, 2, none⟩ = some (I da) ∧ w'.cell? ⟨w.heap.size + 1, 0, none⟩ = some (.bool nb) ∧ w'.cell? ⟨w.heap.size + 1, 1, none⟩ = some (.slice B b0 b1) ∧ w'.cell? ⟨w.heap.size + 1, 2, none⟩ = some (I db)) := fun w' e => by
    obtain ⟨p0, q0, r0⟩ := Z0.out.ext ((Ext.drew _).trans e)
    obtain ⟨p1, q1, r1⟩ := Z1.out.ext ((Ext.drew _).trans e)
    exact ⟨p0, q0, r0, p1, q1, r1⟩
  clear hx Z0 Z1 Y0 Y1
  have hk := HS.out _ (Ext.refl _)
  go_upto_region 3 with fail
  dsimp only [List.append]
  go_region_held3 (fun w' => w'.cell? ⟨w.heap.size, 0, none⟩ = some (.bool na) ∧ w'.cell? ⟨w.heap.size, 1, none⟩ = some (.slice A a0 a1) ∧ w'.cell? ⟨w.heap.size, 2, none⟩ = some (I da) ∧ w'.cell? ⟨w.heap.size + 1, 0, none⟩ = some (.bool nb) ∧ w'.cell? ⟨w.heap.size + 1, 1, none⟩ = some (.slice B b0 b1) ∧ w'.cell? ⟨w.heap.size + 1, 2, none⟩ = some (I db)) (first | assumption | exact hk)
    (first
      | (have hg := HE21; clear hg; go_at_call 21; (with_reducible refine (same_true (d := ma) (HI11.out _ HE21.out).rd (HI12.out _ (Ext.refl _)).rd Lma.out).mono ?_); rintro e w22 ⟨rfl, hx⟩; have HE22 := Lib.hid hx; clear hx hk; have hk := HS.out _ (((((((((((((((((((((HE1.out.trans HE2.out).trans HE3.out).trans HE4.out).trans HE5.out).trans HE6.out).trans HE7.out).trans HE8.out).trans HE9.out).trans HE10.out).trans HE11.out).trans HE12.out).trans HE13.out).trans HE14.out).trans HE15.out).trans HE16.out).trans HE17.out).trans HE18.out).trans HE19.out).trans HE20.out).trans HE21.out).trans HE22.out))
      | (have hg := HE20; clear hg; go_at_call 41; (with_reducible refine (rmax_any (HA.out.ext (HEW.out.trans (((((((((((((((((((HE1.out.trans HE2.out).trans HE3.out).trans HE4.out).trans HE5.out).trans HE6.out).trans HE7.out).trans HE8.out).trans HE9.out).trans HE10.out).trans HE11.out).trans HE12.out).trans HE13.out).trans HE14.out).trans HE15.out).trans HE16.out).trans HE17.out).trans HE18.out).trans HE19.out).trans HE20.out))) (HB.out.ext (HEW.out.trans (((((((((((((((((((HE1.out.trans HE2.out).trans HE3.out).trans HE4.out).trans HE5.out).trans HE6.out).trans HE7.out).trans HE8.out).trans HE9.out).trans HE10.out).trans HE11.out).trans HE12.out).trans HE13.out).trans HE14.out).trans HE15.out).trans HE16.out).trans HE17.out).trans HE18.out).trans HE19.out).trans HE20.out))) LS.out.2 LS.out.1).mono ?_); rw [Ema.out]; rintro e w21 ⟨A12, c12, rfl, hon, hx⟩; have HE21 := Lib.hid hx; have HI12 := Lib.hid (Dy.at_ hon Wma.out.1 Wma.out.2); clear hon; clear hx hk; have hk := HS.out _ ((((((((((((((((((((HE1.out.trans HE2.out).trans HE3.out).trans HE4.out).trans HE5.out).trans HE6.out).trans HE7.out).trans HE8.out).trans HE9.out).trans HE10.out).trans HE11.out).trans HE12.out).trans HE13.out).trans HE14.out).trans HE15.out).trans HE16.out).trans HE17.out).trans HE18.out).trans HE19.out).trans HE20.out).trans HE21.out))
      | (have hg := HE19; clear hg; go_at_call 27; (with_reducible refine (max_any (HA.out.ext (HEW.out.trans ((((((((((((((((((HE1.out.trans HE2.out).trans HE3.out).trans HE4.out).trans HE5.out).trans HE6.out).trans HE7.out).trans HE8.out).trans HE9.out).trans HE10.out).trans HE11.out).trans HE12.out).trans HE13.out).trans HE14.out).trans HE15.out).trans HE16.out).trans HE17.out).trans HE18.out).trans HE19.out))) (HB.out.ext (HEW.out.trans ((((((((((((((((((HE1.out.trans HE2.out).trans HE3.out).trans HE4.out).trans HE5.out).trans HE6.out).trans HE7.out).trans HE8.out).trans HE9.out).trans HE10.out).trans HE11.out).trans HE12.out).trans HE13.out).trans HE14.out).trans HE15.out).trans HE16.out).trans HE17.out).trans HE18.out).trans HE19.out))) (HT.out.ext (HEW.out.trans ((((((((((((((((((HE1.out.trans HE2.out).trans HE3.out).trans HE4.out).trans HE5.out).trans HE6.out).trans HE7.out).trans HE8.out).trans HE9.out).trans HE10.out).trans HE11.out).trans HE12.out).trans HE13.out).trans HE14.out).trans HE15.out).trans HE16.out).trans HE17.out).trans HE18.out).trans HE19.out)))).mono ?_); rw [Ema.out]; rintro e w20 ⟨A11, c11, rfl, hon, hx⟩; have HE20 := Lib.hid hx; have HI11 := Lib.hid (Dy.at_ hon Wma.out.1 Wma.out.2); clear hon; clear hx hk; have hk := HS.out _ (((((((((((((((((((HE1.out.trans HE2.out).trans HE3.out).trans HE4.out).trans HE5.out).trans HE6.out).trans HE7.out).trans HE8.out).trans HE9.out).trans HE10.out).trans HE11.out).trans HE12.out).trans HE13.out).trans HE14.out).trans HE15.out).trans HE16.out).trans HE17.out).trans HE18.out).trans HE19.out).trans HE20.out))
      | (have hg := HE18; clear hg; go_at_call 21; (with_reducible refine (same_true (d := mi) (HI9.out _ HE18.out).rd (HI10.out _ (Ext.refl _)).rd Lmi.out).mono ?_); rintro e w19 ⟨rfl, hx⟩; have HE19 := Lib.hid hx; clear hx hk; have hk := HS.out _ ((((((((((((((((((HE1.out.trans HE2.out).trans HE3.out).trans HE4.out).trans HE5.out).trans HE6.out).trans HE7.out).trans HE8.out).trans HE9.out).trans HE10.out).trans HE11.out).trans HE12.out).trans HE13.out).trans HE14.out).trans HE15.out).trans HE16.out).trans HE17.out).trans HE18.out).trans HE19.out))
      | (have hg := HE17; clear hg; go_at_call 40; (with_reducible refine (rmin_any (HA.out.ext (HEW.out.trans ((((((((((((((((HE1.out.trans HE2.out).trans HE3.out).trans HE4.out).trans HE5.out).trans HE6.out).trans HE7.out).trans HE8.out).trans HE9.out).trans HE10.out).trans HE11.out).trans HE12.out).trans HE13.out).trans HE14.out).trans HE15.out).trans HE16.out).trans HE17.out))) (HB.out.ext (HEW.out.trans ((((((((((((((((HE1.out.trans HE2.out).trans HE3.out).trans HE4.out).trans HE5.out).trans HE6.out).trans HE7.out).trans HE8.out).trans HE9.out).trans HE10.out).trans HE11.out).trans HE12.out).trans HE13.out).trans HE14.out).trans HE15.out).trans HE16.out).trans HE17.out))) LS.out.2 LS.out.1).mono ?_); rw [Emi.out]; rintro e w18 ⟨A10, c10, rfl, hon, hx⟩; have HE18 := Lib.hid hx; have HI10 := Lib.hid (Dy.at_ hon Wmi.out.1 Wmi.out.2); clear hon; clear hx hk; have hk := HS.out _ (((((((((((((((((HE1.out.trans HE2.out).trans HE3.out).trans HE4.out).trans HE5.out).trans HE6.out).trans HE7.out).trans HE8.out).trans HE9.out).trans HE10.out).trans HE11.out).trans HE12.out).trans HE13.out).trans HE14.out).trans HE15.out).trans HE16.out).trans HE17.out).trans HE18.out))
      | (have hg := HE16; clear hg; go_at_call 26; (with_reducible refine (min_any (HA.out.ext (HEW.out.trans (((((((((((((((HE1.out.trans HE2.out).trans HE3.out).trans HE4.out).trans HE5.out).trans HE6.out).trans HE7.out).trans HE8.out).trans HE9.out).trans HE10.out).trans HE11.out).trans HE12.out).trans HE13.out).trans HE14.out).trans HE15.out).trans HE16.out))) (HB.out.ext (HEW.out.trans (((((((((((((((HE1.out.trans HE2.out).trans HE3.out).trans HE4.out).trans HE5.out).trans HE6.out).trans HE7.out).trans HE8.out).trans HE9.out).trans HE10.out).trans HE11.out).trans HE12.out).trans HE13.out).trans HE14.out).trans HE15.out).trans HE16.out))) (HT.out.ext (HEW.out.trans (((((((((((((((HE1.out.trans HE2.out).trans HE3.out).trans HE4.out).trans HE5.out).trans HE6.out).trans HE7.out).trans HE8.out).trans HE9.out).trans HE10.out).trans HE11.out).trans HE12.out).trans HE13.out).trans HE14.out).trans HE15.out).trans HE16.out)))).mono ?_); rw [Emi.out]; rintro e w17 ⟨A9, c9, rfl, hon, hx⟩; have HE17 := Lib.hid hx; have HI9 := Lib.hid (Dy.at_ hon Wmi.out.1 Wmi.out.2); clear hon; clear hx hk; have hk := HS.out _ ((((((((((((((((HE1.out.trans HE2.out).trans HE3.out).trans HE4.out).trans HE5.out).trans HE6.out).trans HE7.out).trans HE8.out).trans HE9.out).trans HE10.out).trans HE11.out).trans HE12.out).trans HE13.out).trans HE14.out).trans HE15.out).trans HE16.out).trans HE17.out))
      | (have hg := HE15; clear hg; go_at_call 39; (with_reducible refine (rcmp_any (HA.out.ext (HEW.out.trans ((((((((((((((HE1.out.trans HE2.out).trans HE3.out).trans HE4.out).trans HE5.out).trans HE6.out).trans HE7.out).trans HE8.out).trans HE9.out).trans HE10.out).trans HE11.out).trans HE12.out).trans HE13.out).trans HE14.out).trans HE15.out))) (HB.out.ext (HEW.out.trans ((((((((((((((HE1.out.trans HE2.out).trans HE3.out).trans HE4.out).trans HE5.out).trans HE6.out).trans HE7.out).trans HE8.out).trans HE9.out).trans HE10.out).trans HE11.out).trans HE12.out).trans HE13.out).trans HE14.out).trans HE15.out))) LS.out.2 LS.out.1).mono ?_); rw [Ecm.out]; rintro e w16 ⟨rfl, hx⟩; have HE16 := Lib.hid hx; clear hx hk; have hk := HS.out _ (((((((((((((((HE1.out.trans HE2.out).trans HE3.out).trans HE4.out).trans HE5.out).trans HE6.out).trans HE7.out).trans HE8.out).trans HE9.out).trans HE10.out).trans HE11.out).trans HE12.out).trans HE13.out).trans HE14.out).trans HE15.out).trans HE16.out))
      | (have hg := HE14; clear hg; go_at_call 25; (with_reducible refine (cmp_any (HA.out.ext (HEW.out.trans (((((((((((((HE1.out.trans HE2.out).trans HE3.out).trans HE4.out).trans HE5.out).trans HE6.out).trans HE7.out).trans HE8.out).trans HE9.out).trans HE10.out).trans HE11.out).trans HE12.out).trans HE13.out).trans HE14.out))) (HB.out.ext (HEW.out.trans (((((((((((((HE1.out.trans HE2.out).trans HE3.out).trans HE4.out).trans HE5.out).trans HE6.out).trans HE7.out).trans HE8.out).trans HE9.out).trans HE10.out).trans HE11.out).trans HE12.out).trans HE13.out).trans HE14.out)))).mono ?_); rw [Ecm.out]; rintro e w15 ⟨rfl, hx⟩; have HE15 := Lib.hid hx; clear hx hk; have hk := HS.out _ ((((((((((((((HE1.out.trans HE2.out).trans HE3.out).trans HE4.out).trans HE5.out).trans HE6.out).trans HE7.out).trans HE8.out).trans HE9.out).trans HE10.out).trans HE11.out).trans HE12.out).trans HE13.out).trans HE14.out).trans HE15.out))
      | (have hg := HE13; clear hg; go_at_call 38; (with_reducible refine (rsign_any (HA.out.ext (HEW.out.trans ((((((((((((HE1.out.trans HE2.out).trans HE3.out).trans HE4.out).trans HE5.out).trans HE6.out).trans HE7.out).trans HE8.out).trans HE9.out).trans HE10.out).trans HE11.out).trans HE12.out).trans HE13.out)))).mono ?_); rw [Esg.out]; rintro e w14 ⟨rfl, hx⟩; have HE14 := Lib.hid hx; clear hx hk; have hk := HS.out _ (((((((((((((HE1.out.trans HE2.out).trans HE3.out).trans HE4.out).trans HE5.out).trans HE6.out).trans HE7.out).trans HE8.out).trans HE9.out).trans HE10.out).trans HE11.out).trans HE12.out).trans HE13.out).trans HE14.out))
      | (have hg := HE12; clear hg; go_at_call 24; (with_reducible refine (sign_any (HA.out.ext (HEW.out.trans (((((((((((HE1.out.trans HE2.out).trans HE3.out).trans HE4.out).trans HE5.out).trans HE6.out).trans HE7.out).trans HE8.out).trans HE9.out).trans HE10.out).trans HE11.out).trans HE12.out)))).mono ?_); rw [Esg.out]; rintro e w13 ⟨rfl, hx⟩; have HE13 := Lib.hid hx; clear hx hk; have hk := HS.out _ ((((((((((((HE1.out.trans HE2.out).trans HE3.out).trans HE4.out).trans HE5.out).trans HE6.out).trans HE7.out).trans HE8.out).trans HE9.out).trans HE10.out).trans HE11.out).trans HE12.out).trans HE13.out))
      | (have hg := HE11; clear hg; go_at_call 21; (with_reducible refine (same_true (d := aa) (HI7.out _ HE11.out).rd (HI8.out _ (Ext.refl _)).rd Laa.out).mono ?_); rintro e w12 ⟨rfl, hx⟩; have HE12 := Lib.hid hx; clear hx hk; have hk := HS.out _ (((((((((((HE1.out.trans HE2.out).trans HE3.out).trans HE4.out).trans HE5.out).trans HE6.out).trans HE7.out).trans HE8.out).trans HE9.out).trans HE10.out).trans HE11.out).trans HE12.out))
      | (have hg := HE10; clear hg; go_at_call 37; (with_reducible refine (rabs_any (HA.out.ext (HEW.out.trans (((((((((HE1.out.trans HE2.out).trans HE3.out).trans HE4.out).trans HE5.out).trans HE6.out).trans HE7.out).trans HE8.out).trans HE9.out).trans HE10.out)))).mono ?_); rw [Eaa.out]; rintro e w11 ⟨A8, c8, rfl, hon, hx⟩; have HE11 := Lib.hid hx; have HI8 := Lib.hid (Dy.at_ hon Waa.out.1 Waa.out.2); clear hon; clear hx hk; have hk := HS.out _ ((((((((((HE1.out.trans HE2.out).trans HE3.out).trans HE4.out).trans HE5.out).trans HE6.out).trans HE7.out).trans HE8.out).trans HE9.out).trans HE10.out).trans HE11.out))
      | (have hg := HE9; clear hg; go_at_call 23; (with_reducible refine (abs_any (HA.out.ext (HEW.out.trans ((((((((HE1.out.trans HE2.out).trans HE3.out).trans HE4.out).trans HE5.out).trans HE6.out).trans HE7.out).trans HE8.out).trans HE9.out))) (HT.out.ext (HEW.out.trans ((((((((HE1.out.trans HE2.out).trans HE3.out).trans HE4.out).trans HE5.out).trans HE6.out).trans HE7.out).trans HE8.out).trans HE9.out)))).mono ?_); rw [Eaa.out]; rintro e w10 ⟨A7, c7, rfl, hon, hx⟩; have HE10 := Lib.hid hx; have HI7 := Lib.hid (Dy.at_ hon Waa.out.1 Waa.out.2); clear hon; clear hx hk; have hk := HS.out _ (((((((((HE1.out.trans HE2.out).trans HE3.out).trans HE4.out).trans HE5.out).trans HE6.out).trans HE7.out).trans HE8.out).trans HE9.out).trans HE10.out))
      | (have hg := HE8; clear hg; go_at_call 21; (with_reducible refine (same_true (d := na_) (HI5.out _ HE8.out).rd (HI6.out _ (Ext.refl _)).rd Lna_.out).mono ?_); rintro e w9 ⟨rfl, hx⟩; have HE9 := Lib.hid hx; clear hx hk; have hk := HS.out _ ((((((((HE1.out.trans HE2.out).trans HE3.out).trans HE4.out).trans HE5.out).trans HE6.out).trans HE7.out).trans HE8.out).trans HE9.out))
      | (have hg := HE7; clear hg; go_at_call 36; (with_reducible refine (rneg_any (HA.out.ext (HEW.out.trans ((((((HE1.out.trans HE2.out).trans HE3.out).trans HE4.out).trans HE5.out).trans HE6.out).trans HE7.out)))).mono ?_); rw [Ena.out]; rintro e w8 ⟨A6, c6, rfl, hon, hx⟩; have HE8 := Lib.hid hx; have HI6 := Lib.hid (Dy.at_ hon Wna_.out.1 Wna_.out.2); clear hon; clear hx hk; have hk := HS.out _ (((((((HE1.out.trans HE2.out).trans HE3.out).trans HE4.out).trans HE5.out).trans HE6.out).trans HE7.out).trans HE8.out))
      | (have hg := HE6; clear hg; go_at_call 22; (with_reducible refine (neg_any (HA.out.ext (HEW.out.trans (((((HE1.out.trans HE2.out).trans HE3.out).trans HE4.out).trans HE5.out).trans HE6.out))) (HT.out.ext (HEW.out.trans (((((HE1.out.trans HE2.out).trans HE3.out).trans HE4.out).trans HE5.out).trans HE6.out)))).mono ?_); rw [Ena.out]; rintro e w7 ⟨A5, c5, rfl, hon, hx⟩; have HE7 := Lib.hid hx; have HI5 := Lib.hid (Dy.at_ hon Wna_.out.1 Wna_.out.2); clear hon; clear hx hk; have hk := HS.out _ ((((((HE1.out.trans HE2.out).trans HE3.out).trans HE4.out).trans HE5.out).trans HE6.out).trans HE7.out))
      | (have hg := HE5; clear hg; go_at_call 21; (with_reducible refine (same_true (d := sb) (HI3.out _ HE5.out).rd (HI4.out _ (Ext.refl _)).rd Lsb.out).mono ?_); rintro e w6 ⟨rfl, hx⟩; have HE6 := Lib.hid hx; clear hx hk; have hk := HS.out _ (((((HE1.out.trans HE2.out).trans HE3.out).trans HE4.out).trans HE5.out).trans HE6.out))
      | (have hg := HE4; clear hg; go_at_call 35; (with_reducible refine (rsub_any (HA.out.ext (HEW.out.trans (((HE1.out.trans HE2.out).trans HE3.out).trans HE4.out))) (HB.out.ext (HEW.out.trans (((HE1.out.trans HE2.out).trans HE3.out).trans HE4.out)))).mono ?_); rw [Esb.out]; rintro e w5 ⟨A4, c4, rfl, hon, hx⟩; have HE5 := Lib.hid hx; have HI4 := Lib.hid (Dy.at_ hon Wsb.out.1 Wsb.out.2); clear hon; clear hx hk; have hk := HS.out _ ((((HE1.out.trans HE2.out).trans HE3.out).trans HE4.out).trans HE5.out))
      | (have hg := HE3; clear hg; go_at_call 29; (with_reducible refine (sub_any (HA.out.ext (HEW.out.trans ((HE1.out.trans HE2.out).trans HE3.out))) (HB.out.ext (HEW.out.trans ((HE1.out.trans HE2.out).trans HE3.out))) (HT.out.ext (HEW.out.trans ((HE1.out.trans HE2.out).trans HE3.out)))).mono ?_); rw [Esb.out]; rintro e w4 ⟨A3, c3, rfl, hon, hx⟩; have HE4 := Lib.hid hx; have HI3 := Lib.hid (Dy.at_ hon Wsb.out.1 Wsb.out.2); clear hon; clear hx hk; have hk := HS.out _ (((HE1.out.trans HE2.out).trans HE3.out).trans HE4.out))
      | (have hg := HE2; clear hg; go_at_call 21; (with_reducible refine (same_true (d := ab) (HI1.out _ HE2.out).rd (HI2.out _ (Ext.refl _)).rd Lab.out).mono ?_); rintro e w3 ⟨rfl, hx⟩; have HE3 := Lib.hid hx; clear hx hk; have hk := HS.out _ ((HE1.out.trans HE2.out).trans HE3.out))
      | (have hg := HE1; clear hg; go_at_call 34; (with_reducible refine (radd_any (HA.out.ext (HEW.out.trans HE1.out)) (HB.out.ext (HEW.out.trans HE1.out))).mono ?_); rw [Eab.out]; rintro e w2 ⟨A2, c2, rfl, hon, hx⟩; have HE2 := Lib.hid hx; have HI2 := Lib.hid (Dy.at_ hon Wab.out.1 Wab.out.2); clear hon; clear hx hk; have hk := HS.out _ (HE1.out.trans HE2.out))
      | (go_at_call 28; (with_reducible refine (add_any (HA.out.ext (HEW.out.trans (Ext.refl _))) (HB.out.ext (HEW.out.trans (Ext.refl _))) (HT.out.ext (HEW.out.trans (Ext.refl _)))).mono ?_); rw [Eab.out]; rintro e w1 ⟨A1, c1, rfl, hon, hx⟩; have HE1 := Lib.hid hx; have HI1 := Lib.hid (Dy.at_ hon Wab.out.1 Wab.out.2); clear hon; clear hx hk; have hk := HS.out _ HE1.out))
  all_goals
    go_wp2_with fail
    go_ret
    exact ⟨rfl, HEW.out.trans (((((((((((((((((((((HE1.out.trans HE2.out).trans HE3.out).trans HE4.out).trans HE5.out).trans HE6.out).trans HE7.out).trans HE8.out).trans HE9.out).trans HE10.out).trans HE11.out).trans HE12.out).trans HE13.out).trans HE14.out).trans HE15.out).trans HE16.out).trans HE17.out).trans HE18.out).trans HE19.out).trans HE20.out).trans HE21.out).trans HE22.out)⟩

end Go.Proofs.YtgmmcfnahfcadaaDoor

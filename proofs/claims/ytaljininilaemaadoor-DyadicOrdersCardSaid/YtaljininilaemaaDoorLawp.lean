/- The law DyadicOrders: equal numbers. -/
import Derived.Test.YtaljininilaemaaDoorOrd
import Derived.Deep.RegionHeld3
import Derived.Deep.DeepCutAuto
namespace Go.Proofs.YtaljininilaemaaDoor
open Go.RowKit

set_option maxRecDepth 100000 in
set_option maxHeartbeats 1000000 in
theorem orders_off {w : World} {na nb nc : Bool} {A B C : Option Addr} {a0 a1 b0 b1 c0 c1 : Nat} {da db dc : Int} (hT : Tabs w) (h : ¬ (fewOk a0 da ∧ fewOk b0 db ∧ fewOk c0 dc)) :
    Calls Tryd.prog 4 #[dv na A a0 a1 da, dv nb B b0 b1 db, dv nc C c0 c1 dc] w fun e w' => e = .returned (.bool true) ∧ Ext w w' := by
  have HT := Lib.hid hT; clear hT
  have HFW := Lib.hid (few3_not h)
  clear h
  go_enter Tryd.func4, Tryd.ntmps4
  go_wp2_with fail
  have HN := Lib.hid (nums3 (((w.alloc (.cells #[.bool na, .slice A a0 a1, I da] 24)).alloc (.cells #[.bool nb, .slice B b0 b1, I db] 24)).alloc (.cells #[.bool nc, .slice C c0 c1, I dc] 24)) (w.heap.size + 1 + 1 + 1) (by simp) na nb nc A B C a0 b0 c0 a1 b1 c1 da db dc 24)
  with_reducible refine (few_false HN.out (by simp) (by omega) HFW.out).mono ?_
  rintro e wf ⟨rfl, hx⟩
  have HEF : Hid (Ext w wf) := (((((Ext.alloc _ _).trans (Ext.alloc _ _)).trans (Ext.alloc _ _)).trans (Ext.alloc _ _))).trans hx
  clear hx
  go_wp2_with fail
  refine (awake_any _ (HT.out.ext HEF.out)).mono ?_
  rintro e w0 ⟨rfl, hx⟩
  have HEW := Lib.hid (HEF.out.trans hx)
  clear hx
  go_wp2_with fail
  go_ret
  exact ⟨rfl, HEW.out⟩

set_option maxRecDepth 100000 in
set_option maxHeartbeats 8000000 in
theorem orders_eq {w : World} {na nb nc : Bool} {A A' B B' C C' : Option Addr} {a0 a1 a2 b0 b1 b2 c0 c1 c2 : Nat} {da db dc : Int} {a b c : DV} (hha : Dy w na A a0 a1 da a A' a2) (hhb : Dy w nb B b0 b1 db b B' b2) (hhc : Dy w nc C c0 c1 dc c C' c2) (hT : Tabs w)
    (fa : fewOk a0 da) (fb : fewOk b0 db) (fc : fewOk c0 dc) (sa : Sm a) (sb : Sm b) (sc : Sm c)(hP : TabP w) (hx0 : cmpD a b = 0) :
    Calls Tryd.prog 4 #[dv na A a0 a1 da, dv nb B b0 b1 db, dv nc C c0 c1 dc] w fun e w' => e = .returned (.bool true) ∧ Ext w w' := by
  have HA := Lib.hid hha; have HB := Lib.hid hhb; have HC := Lib.hid hhc; have HT := Lib.hid hT; have HP := Lib.hid hP; clear hha hhb hhc hT hP
  obtain ⟨oa, la, ta⟩ := sa
  obtain ⟨ob, lb, tb⟩ := sb
  obtain ⟨oc, lc, tc⟩ := sc
  have HFW := Lib.hid (few3 fa fb fc)
  clear fa fb fc
  obtain ⟨sb, hsb⟩ : ∃ x, subD a b = x := ⟨_, rfl⟩
  obtain ⟨ac, hac⟩ : ∃ x, addD a c = x := ⟨_, rfl⟩
  obtain ⟨bc, hbc⟩ : ∃ x, addD b c = x := ⟨_, rfl⟩
  obtain ⟨mac, hmac⟩ : ∃ x, mulD a c = x := ⟨_, rfl⟩
  obtain ⟨mbc, hmbc⟩ : ∃ x, mulD b c = x := ⟨_, rfl⟩
  obtain ⟨mi, hmi⟩ : ∃ x, minD a b = x := ⟨_, rfl⟩
  obtain ⟨ma, hma⟩ : ∃ x, maxD a b = x := ⟨_, rfl⟩
  obtain ⟨ab, hab⟩ : ∃ x, addD a b = x := ⟨_, rfl⟩
  obtain ⟨z, hz⟩ : ∃ x, signD c = x := ⟨_, rfl⟩
  obtain ⟨v, hv⟩ : ∃ x, cmpD mi ma = x := ⟨_, rfl⟩
  have oc1 := order_facts oa ob oc (by omega) (by omega)
  have xb : -1 ≤ cmpD a b ∧ cmpD a b ≤ 1 := by unfold cmpD signD; split; omega; split <;> omega
  have zb : -1 ≤ signD c ∧ signD c ≤ 1 := by unfold signD; split; omega; split <;> omega
  have cz0 := cmp_zero oa ob hx0
  obtain ⟨x, hx⟩ : ∃ x, cmpD a b = x := ⟨_, rfl⟩
  rw [hx] at oc1 xb hx0
  rw [hz] at zb oc1
  obtain ⟨r1, r2, r3, r4, r5, r6⟩ := oc1
  obtain ⟨xb1, xb2⟩ := xb
  obtain ⟨zb1, zb2⟩ := zb
  obtain ⟨nx, hnx⟩ : ∃ y, -x = y := ⟨_, rfl⟩
  obtain ⟨y, hy⟩ : ∃ y, x * z = y := ⟨_, rfl⟩
  have yb : -1 ≤ y ∧ y ≤ 1 := by
    rw [← hy]
    rcases (show x = -1 ∨ x = 0 ∨ x = 1 by omega) with h | h | h <;> rw [h] <;> omega
  have en2 : -x = nx := hnx
  have en1 : IntKind.i64.wrap nx = nx := by rw [IntWalk.i64_in _ (by omega)]
  have ey2 : x * z = y := hy
  have ey1 : IntKind.i64.wrap y = y := by rw [IntWalk.i64_in _ (by omega)]
  rw [hnx] at r1
  rw [hy] at r4
  have Esb : Hid (subD a b = sb) := hsb
  have Eac : Hid (addD a c = ac) := hac
  have Ebc : Hid (addD b c = bc) := hbc
  have Mac : Hid (mulD a c = mac) := hmac
  have Mbc : Hid (mulD b c = mbc) := hmbc
  have Emi : Hid (minD a b = mi) := hmi
  have Ema : Hid (maxD a b = ma) := hma
  have Eab : Hid (addD a b = ab) := hab
  have C0 : Hid (cmpD a b = x) := hx
  have C1 : Hid (cmpD b a = nx) := r1
  have C2 : Hid (signD sb = x) := by show _ = _; rw [← hsb]; exact r2
  have C3 : Hid (cmpD ac bc = x) := by show _ = _; rw [← hac, ← hbc]; exact r3
  have C4 : Hid (cmpD mac mbc = y) := by show _ = _; rw [← hmac, ← hmbc]; exact r4
  have C5 : Hid (signD c = z) := hz
  have Emm : Hid (addD mi ma = ab) := by show _ = _; rw [← hmi, ← hma, ← hab]; exact r5
  have C6 : Hid (cmpD mi ma = v) := hv
  have v0 : v ≤ 0 := by rw [← hv, ← hmi, ← hma]; exact r6
  have Wsb : Hid (sb.ok ∧ len sb.m ≤ 16777216) := ⟨hsb ▸ subD_ok _ _, by have := lim_sub (a := a) (b := b) oa.2.1 ob.2.1; rw [hsb] at this; omega⟩
  have Wac : Hid (ac.ok ∧ len ac.m ≤ 16777216) := ⟨hac ▸ addD_ok _ _, by have := lim_add (a := a) (b := c) oa.2.1 oc.2.1; rw [hac] at this; omega⟩
  have Wbc : Hid (bc.ok ∧ len bc.m ≤ 16777216) := ⟨hbc ▸ addD_ok _ _, by have := lim_add (a := b) (b := c) ob.2.1 oc.2.1; rw [hbc] at this; omega⟩
  have Wmac : Hid (mac.ok ∧ len mac.m ≤ 16777216) := ⟨hmac ▸ mulD_ok _ _, by have := lim_mul a c; rw [hmac] at this; omega⟩
  have Wmbc : Hid (mbc.ok ∧ len mbc.m ≤ 16777216) := ⟨hmbc ▸ mulD_ok _ _, by have := lim_mul b c; rw [hmbc] at this; omega⟩
  have Wmi : Hid (mi.ok ∧ len mi.m ≤ 16777216) := ⟨hmi ▸ minD_ok oa ob, by rw [← hmi]; unfold minD; split <;> omega⟩
  have Wma : Hid (ma.ok ∧ len ma.m ≤ 16777216) := ⟨hma ▸ maxD_ok oa ob, by rw [← hma]; unfold maxD; split <;> omega⟩
  have Wab : Hid (ab.ok ∧ len ab.m ≤ 16777216) := ⟨hab ▸ addD_ok _ _, by have := lim_add (a := a) (b := b) oa.2.1 ob.2.1; rw [hab] at this; omega⟩
  have Lab : Hid (len ab.m ≤ 1073741824) := by have := Wab.out.2; show _ ≤ _; omega
  have La2 : Hid (len a.m ≤ 1048576) := by show _ ≤ _; omega
  have Lb2 : Hid (len b.m ≤ 1048576) := by show _ ≤ _; omega
  have hab0 : a = b := cz0
  have hb0 : (x != 0) = false := by simp [hx0]
  have hb1 : (x == 0) = true := by simp [hx0]
  obtain ⟨tx, htx⟩ : ∃ t, txtS a = t := ⟨_, rfl⟩
  have Txa : Hid (txtS a = tx) := htx
  have Txb : Hid (txtS b = tx) := by show _ = _; rw [← hab0]; exact htx
  clear hab0 htx
  clear hsb hac hbc hmac hmbc hmi hma hab hz hv hx hx0 hnx hy cz0 yb xb1 xb2 zb1 zb2 oa ob oc la lb lc ta tb tc r1 r2 r3 r4 r5 r6
  go_enter Tryd.func4, Tryd.ntmps4
  go_wp2_with fail
  have HN := Lib.hid (nums3 (((w.alloc (.cells #[.bool na, .slice A a0 a1, I da] 24)).alloc (.cells #[.bool nb, .slice B b0 b1, I db] 24)).alloc (.cells #[.bool nc, .slice C c0 c1, I dc] 24)) (w.heap.size + 1 + 1 + 1) (by simp) na nb nc A B C a0 b0 c0 a1 b1 c1 da db dc 24)
  with_reducible refine (few_true HN.out (by simp) (by omega) HFW.out).mono ?_
  rintro e wf ⟨rfl, hx⟩
  have HEF : Hid (Ext w wf) := (((((Ext.alloc _ _).trans (Ext.alloc _ _)).trans (Ext.alloc _ _)).trans (Ext.alloc _ _))).trans hx
  have Y0 : Hid (St wf (w.heap.size) (.bool na) (.slice A a0 a1) (I da)) := by
    have s := (Bx.new w (.bool na) (.slice A a0 a1) (I da) 24).1
    rw [show w.heap.size = w.heap.size by simp] at s
    exact ((((s.ext (Ext.alloc _ _)).ext (Ext.alloc _ _)).ext (Ext.alloc _ _))).ext hx
  have Y1 : Hid (St wf (w.heap.size + 1) (.bool nb) (.slice B b0 b1) (I db)) := by
    have s := (Bx.new (w.alloc (.cells #[.bool na, .slice A a0 a1, I da] 24)) (.bool nb) (.slice B b0 b1) (I db) 24).1
    rw [show (w.alloc (.cells #[.bool na, .slice A a0 a1, I da] 24)).heap.size = w.heap.size + 1 by simp] at s
    exact (((s.ext (Ext.alloc _ _)).ext (Ext.alloc _ _))).ext hx
  have Y2 : Hid (St wf (w.heap.size + 1 + 1) (.bool nc) (.slice C c0 c1) (I dc)) := by
    have s := (Bx.new ((w.alloc (.cells #[.bool na, .slice A a0 a1, I da] 24)).alloc (.cells #[.bool nb, .slice B b0 b1, I db] 24)) (.bool nc) (.slice C c0 c1) (I dc) 24).1
    rw [show ((w.alloc (.cells #[.bool na, .slice A a0 a1, I da] 24)).alloc (.cells #[.bool nb, .slice B b0 b1, I db] 24)).heap.size = w.heap.size + 1 + 1 by simp] at s
    exact ((s.ext (Ext.alloc _ _))).ext hx
  clear hx HN HFW
  go_wp2_with fail
  refine (awake_any _ (HT.out.ext HEF.out)).mono ?_
  rintro e w0 ⟨rfl, hx⟩
  have HEV := Lib.hid (HEF.out.trans hx)
  have V0 := Lib.hid (Y0.out.ext hx); have V1 := Lib.hid (Y1.out.ext hx); have V2 := Lib.hid (Y2.out.ext hx)
  clear hx Y0 Y1 Y2
  obtain ⟨z0, z1, z2⟩ := V0.out
  obtain ⟨z3, z4, z5⟩ := V1.out
  go_wp2_with (go_at_call 20; (with_reducible refine (cmp_any (HA.out.ext HEV.out) (HB.out.ext HEV.out)).mono ?_); rw [C0.out]; rintro e w00 ⟨rfl, hx⟩; have HEU := Lib.hid (HEV.out.trans hx); have U0 := Lib.hid (V0.out.ext hx); have U1 := Lib.hid (V1.out.ext hx); have U2 := Lib.hid (V2.out.ext hx); clear hx)
  have HEW := Lib.hid (HEU.out.trans (Ext.drew _))
  have HS : Hid (∀ w', Ext w00.drew w' → w'.cell? ⟨w.heap.size, 0, none⟩ = some (.bool na) ∧ w'.cell? ⟨w.heap.size, 1, none⟩ = some (.slice A a0 a1) ∧ w'.cell? ⟨w.heap.size, 2, none⟩ = some (I da) ∧ w'.cell? ⟨w.heap.size + 1, 0, none⟩ = some (.bool nb) ∧ w'.cell? ⟨w.heap.size + 1, 1, none⟩ = some (.slice B b0 b1) ∧ w'.cell? ⟨w.heap.size + 1, 2, none⟩ = some (I db) ∧ w'.cell? ⟨w.heap.size + 1 + 1, 0, none⟩ = some (.bool nc) ∧ w'.cell? ⟨w.heap.size + 1 + 1, 1, none⟩ = some (.slice C c0 c1) ∧ w'.cell? ⟨w.heap.size + 1 + 1, 2, none⟩ = some (I dc)) := fun w' e => by
    obtain ⟨p0, q0, r0⟩ := U0.out.ext ((Ext.drew _).trans e)
    obtain ⟨p1, q1, r1⟩ := U1.out.ext ((Ext.drew _).trans e)
    obtain ⟨p2, q2, r2⟩ := U2.out.ext ((Ext.drew _).trans e)
    exact ⟨p0, q0, r0, p1, q1, r1, p2, q2, r2⟩
  clear U0 U1 U2 V0 V1 V2 z0 z1 z2 z3 z4 z5
  have hk := HS.out _ (Ext.refl _)
  dsimp only [List.append]
  go_region_held3 (fun w' => w'.cell? ⟨w.heap.size, 0, none⟩ = some (.bool na) ∧ w'.cell? ⟨w.heap.size, 1, none⟩ = some (.slice A a0 a1) ∧ w'.cell? ⟨w.heap.size, 2, none⟩ = some (I da) ∧ w'.cell? ⟨w.heap.size + 1, 0, none⟩ = some (.bool nb) ∧ w'.cell? ⟨w.heap.size + 1, 1, none⟩ = some (.slice B b0 b1) ∧ w'.cell? ⟨w.heap.size + 1, 2, none⟩ = some (I db) ∧ w'.cell? ⟨w.heap.size + 1 + 1, 0, none⟩ = some (.bool nc) ∧ w'.cell? ⟨w.heap.size + 1 + 1, 1, none⟩ = some (.slice C c0 c1) ∧ w'.cell? ⟨w.heap.size + 1 + 1, 2, none⟩ = some (I dc)) (first | assumption | exact hk)
    (first
      | (have hg := HE19; clear hg; go_at_call 20; (with_reducible refine (cmp_any (HI10.out _ HE19.out) (HI11.out _ (Ext.refl _))).mono ?_); rw [C6.out]; rintro e w20 ⟨rfl, hx⟩; have HE20 := Lib.hid hx; clear hx hk; have hk := HS.out _ (((((((((((((((((((HE1.out.trans HE2.out).trans HE3.out).trans HE4.out).trans HE5.out).trans HE6.out).trans HE7.out).trans HE8.out).trans HE9.out).trans HE10.out).trans HE11.out).trans HE12.out).trans HE13.out).trans HE14.out).trans HE15.out).trans HE16.out).trans HE17.out).trans HE18.out).trans HE19.out).trans HE20.out))
      | (have hg := HE18; clear hg; go_at_call 22; (with_reducible refine (max_any (HA.out.ext (HEW.out.trans (((((((((((((((((HE1.out.trans HE2.out).trans HE3.out).trans HE4.out).trans HE5.out).trans HE6.out).trans HE7.out).trans HE8.out).trans HE9.out).trans HE10.out).trans HE11.out).trans HE12.out).trans HE13.out).trans HE14.out).trans HE15.out).trans HE16.out).trans HE17.out).trans HE18.out))) (HB.out.ext (HEW.out.trans (((((((((((((((((HE1.out.trans HE2.out).trans HE3.out).trans HE4.out).trans HE5.out).trans HE6.out).trans HE7.out).trans HE8.out).trans HE9.out).trans HE10.out).trans HE11.out).trans HE12.out).trans HE13.out).trans HE14.out).trans HE15.out).trans HE16.out).trans HE17.out).trans HE18.out))) (HT.out.ext (HEW.out.trans (((((((((((((((((HE1.out.trans HE2.out).trans HE3.out).trans HE4.out).trans HE5.out).trans HE6.out).trans HE7.out).trans HE8.out).trans HE9.out).trans HE10.out).trans HE11.out).trans HE12.out).trans HE13.out).trans HE14.out).trans HE15.out).trans HE16.out).trans HE17.out).trans HE18.out)))).mono ?_); rw [Ema.out]; rintro e w19 ⟨A11, c11, rfl, hon, hx⟩; have HE19 := Lib.hid hx; have HI11 := Lib.hid (Dy.at_ hon Wma.out.1 Wma.out.2); clear hon; clear hx hk; have hk := HS.out _ ((((((((((((((((((HE1.out.trans HE2.out).trans HE3.out).trans HE4.out).trans HE5.out).trans HE6.out).trans HE7.out).trans HE8.out).trans HE9.out).trans HE10.out).trans HE11.out).trans HE12.out).trans HE13.out).trans HE14.out).trans HE15.out).trans HE16.out).trans HE17.out).trans HE18.out).trans HE19.out))
      | (have hg := HE17; clear hg; go_at_call 21; (with_reducible refine (min_any (HA.out.ext (HEW.out.trans ((((((((((((((((HE1.out.trans HE2.out).trans HE3.out).trans HE4.out).trans HE5.out).trans HE6.out).trans HE7.out).trans HE8.out).trans HE9.out).trans HE10.out).trans HE11.out).trans HE12.out).trans HE13.out).trans HE14.out).trans HE15.out).trans HE16.out).trans HE17.out))) (HB.out.ext (HEW.out.trans ((((((((((((((((HE1.out.trans HE2.out).trans HE3.out).trans HE4.out).trans HE5.out).trans HE6.out).trans HE7.out).trans HE8.out).trans HE9.out).trans HE10.out).trans HE11.out).trans HE12.out).trans HE13.out).trans HE14.out).trans HE15.out).trans HE16.out).trans HE17.out))) (HT.out.ext (HEW.out.trans ((((((((((((((((HE1.out.trans HE2.out).trans HE3.out).trans HE4.out).trans HE5.out).trans HE6.out).trans HE7.out).trans HE8.out).trans HE9.out).trans HE10.out).trans HE11.out).trans HE12.out).trans HE13.out).trans HE14.out).trans HE15.out).trans HE16.out).trans HE17.out)))).mono ?_); rw [Emi.out]; rintro e w18 ⟨A10, c10, rfl, hon, hx⟩; have HE18 := Lib.hid hx; have HI10 := Lib.hid (Dy.at_ hon Wmi.out.1 Wmi.out.2); clear hon; clear hx hk; have hk := HS.out _ (((((((((((((((((HE1.out.trans HE2.out).trans HE3.out).trans HE4.out).trans HE5.out).trans HE6.out).trans HE7.out).trans HE8.out).trans HE9.out).trans HE10.out).trans HE11.out).trans HE12.out).trans HE13.out).trans HE14.out).trans HE15.out).trans HE16.out).trans HE17.out).trans HE18.out))
      | (have hg := HE16; clear hg; go_at_call 16; (with_reducible refine (same_true (d := ab) (HI8.out _ HE16.out).rd (HI9.out _ (Ext.refl _)).rd Lab.out).mono ?_); rintro e w17 ⟨rfl, hx⟩; have HE17 := Lib.hid hx; clear hx hk; have hk := HS.out _ ((((((((((((((((HE1.out.trans HE2.out).trans HE3.out).trans HE4.out).trans HE5.out).trans HE6.out).trans HE7.out).trans HE8.out).trans HE9.out).trans HE10.out).trans HE11.out).trans HE12.out).trans HE13.out).trans HE14.out).trans HE15.out).trans HE16.out).trans HE17.out))
      | (have hg := HE15; clear hg; go_at_call 23; (with_reducible refine (add_any (HA.out.ext (HEW.out.trans ((((((((((((((HE1.out.trans HE2.out).trans HE3.out).trans HE4.out).trans HE5.out).trans HE6.out).trans HE7.out).trans HE8.out).trans HE9.out).trans HE10.out).trans HE11.out).trans HE12.out).trans HE13.out).trans HE14.out).trans HE15.out))) (HB.out.ext (HEW.out.trans ((((((((((((((HE1.out.trans HE2.out).trans HE3.out).trans HE4.out).trans HE5.out).trans HE6.out).trans HE7.out).trans HE8.out).trans HE9.out).trans HE10.out).trans HE11.out).trans HE12.out).trans HE13.out).trans HE14.out).trans HE15.out))) (HT.out.ext (HEW.out.trans ((((((((((((((HE1.out.trans HE2.out).trans HE3.out).trans HE4.out).trans HE5.out).trans HE6.out).trans HE7.out).trans HE8.out).trans HE9.out).trans HE10.out).trans HE11.out).trans HE12.out).trans HE13.out).trans HE14.out).trans HE15.out)))).mono ?_); rw [Eab.out]; rintro e w16 ⟨A9, c9, rfl, hon, hx⟩; have HE16 := Lib.hid hx; have HI9 := Lib.hid (Dy.at_ hon Wab.out.1 Wab.out.2); clear hon; clear hx hk; have hk := HS.out _ (((((((((((((((HE1.out.trans HE2.out).trans HE3.out).trans HE4.out).trans HE5.out).trans HE6.out).trans HE7.out).trans HE8.out).trans HE9.out).trans HE10.out).trans HE11.out).trans HE12.out).trans HE13.out).trans HE14.out).trans HE15.out).trans HE16.out))
      | (have hg := HE14; clear hg; go_at_call 23; (with_reducible refine (add_any (HI6.out _ HE14.out) (HI7.out _ (Ext.refl _)) (HT.out.ext (HEW.out.trans (((((((((((((HE1.out.trans HE2.out).trans HE3.out).trans HE4.out).trans HE5.out).trans HE6.out).trans HE7.out).trans HE8.out).trans HE9.out).trans HE10.out).trans HE11.out).trans HE12.out).trans HE13.out).trans HE14.out)))).mono ?_); rw [Emm.out]; rintro e w15 ⟨A8, c8, rfl, hon, hx⟩; have HE15 := Lib.hid hx; have HI8 := Lib.hid (Dy.at_ hon Wab.out.1 Wab.out.2); clear hon; clear hx hk; have hk := HS.out _ ((((((((((((((HE1.out.trans HE2.out).trans HE3.out).trans HE4.out).trans HE5.out).trans HE6.out).trans HE7.out).trans HE8.out).trans HE9.out).trans HE10.out).trans HE11.out).trans HE12.out).trans HE13.out).trans HE14.out).trans HE15.out))
      | (have hg := HE13; clear hg; go_at_call 22; (with_reducible refine (max_any (HA.out.ext (HEW.out.trans ((((((((((((HE1.out.trans HE2.out).trans HE3.out).trans HE4.out).trans HE5.out).trans HE6.out).trans HE7.out).trans HE8.out).trans HE9.out).trans HE10.out).trans HE11.out).trans HE12.out).trans HE13.out))) (HB.out.ext (HEW.out.trans ((((((((((((HE1.out.trans HE2.out).trans HE3.out).trans HE4.out).trans HE5.out).trans HE6.out).trans HE7.out).trans HE8.out).trans HE9.out).trans HE10.out).trans HE11.out).trans HE12.out).trans HE13.out))) (HT.out.ext (HEW.out.trans ((((((((((((HE1.out.trans HE2.out).trans HE3.out).trans HE4.out).trans HE5.out).trans HE6.out).trans HE7.out).trans HE8.out).trans HE9.out).trans HE10.out).trans HE11.out).trans HE12.out).trans HE13.out)))).mono ?_); rw [Ema.out]; rintro e w14 ⟨A7, c7, rfl, hon, hx⟩; have HE14 := Lib.hid hx; have HI7 := Lib.hid (Dy.at_ hon Wma.out.1 Wma.out.2); clear hon; clear hx hk; have hk := HS.out _ (((((((((((((HE1.out.trans HE2.out).trans HE3.out).trans HE4.out).trans HE5.out).trans HE6.out).trans HE7.out).trans HE8.out).trans HE9.out).trans HE10.out).trans HE11.out).trans HE12.out).trans HE13.out).trans HE14.out))
      | (have hg := HE12; clear hg; go_at_call 21; (with_reducible refine (min_any (HA.out.ext (HEW.out.trans (((((((((((HE1.out.trans HE2.out).trans HE3.out).trans HE4.out).trans HE5.out).trans HE6.out).trans HE7.out).trans HE8.out).trans HE9.out).trans HE10.out).trans HE11.out).trans HE12.out))) (HB.out.ext (HEW.out.trans (((((((((((HE1.out.trans HE2.out).trans HE3.out).trans HE4.out).trans HE5.out).trans HE6.out).trans HE7.out).trans HE8.out).trans HE9.out).trans HE10.out).trans HE11.out).trans HE12.out))) (HT.out.ext (HEW.out.trans (((((((((((HE1.out.trans HE2.out).trans HE3.out).trans HE4.out).trans HE5.out).trans HE6.out).trans HE7.out).trans HE8.out).trans HE9.out).trans HE10.out).trans HE11.out).trans HE12.out)))).mono ?_); rw [Emi.out]; rintro e w13 ⟨A6, c6, rfl, hon, hx⟩; have HE13 := Lib.hid hx; have HI6 := Lib.hid (Dy.at_ hon Wmi.out.1 Wmi.out.2); clear hon; clear hx hk; have hk := HS.out _ ((((((((((((HE1.out.trans HE2.out).trans HE3.out).trans HE4.out).trans HE5.out).trans HE6.out).trans HE7.out).trans HE8.out).trans HE9.out).trans HE10.out).trans HE11.out).trans HE12.out).trans HE13.out))
      | (have hg := HE11; clear hg; go_at_call 28; (with_reducible refine (text_any (HB.out.ext (HEW.out.trans ((((((((((HE1.out.trans HE2.out).trans HE3.out).trans HE4.out).trans HE5.out).trans HE6.out).trans HE7.out).trans HE8.out).trans HE9.out).trans HE10.out).trans HE11.out))) (HP.out.ext (HEW.out.trans ((((((((((HE1.out.trans HE2.out).trans HE3.out).trans HE4.out).trans HE5.out).trans HE6.out).trans HE7.out).trans HE8.out).trans HE9.out).trans HE10.out).trans HE11.out))) Lb2.out).mono ?_); rw [Txb.out]; rintro e w12 ⟨rfl, hx⟩; have HE12 := Lib.hid hx; clear hx hk; have hk := HS.out _ (((((((((((HE1.out.trans HE2.out).trans HE3.out).trans HE4.out).trans HE5.out).trans HE6.out).trans HE7.out).trans HE8.out).trans HE9.out).trans HE10.out).trans HE11.out).trans HE12.out))
      | (have hg := HE10; clear hg; go_at_call 28; (with_reducible refine (text_any (HA.out.ext (HEW.out.trans (((((((((HE1.out.trans HE2.out).trans HE3.out).trans HE4.out).trans HE5.out).trans HE6.out).trans HE7.out).trans HE8.out).trans HE9.out).trans HE10.out))) (HP.out.ext (HEW.out.trans (((((((((HE1.out.trans HE2.out).trans HE3.out).trans HE4.out).trans HE5.out).trans HE6.out).trans HE7.out).trans HE8.out).trans HE9.out).trans HE10.out))) La2.out).mono ?_); rw [Txa.out]; rintro e w11 ⟨rfl, hx⟩; have HE11 := Lib.hid hx; clear hx hk; have hk := HS.out _ ((((((((((HE1.out.trans HE2.out).trans HE3.out).trans HE4.out).trans HE5.out).trans HE6.out).trans HE7.out).trans HE8.out).trans HE9.out).trans HE10.out).trans HE11.out))
      | (have hg := HE9; clear hg; go_at_call 19; (with_reducible refine (sign_any (HC.out.ext (HEW.out.trans ((((((((HE1.out.trans HE2.out).trans HE3.out).trans HE4.out).trans HE5.out).trans HE6.out).trans HE7.out).trans HE8.out).trans HE9.out)))).mono ?_); rw [C5.out]; rintro e w10 ⟨rfl, hx⟩; have HE10 := Lib.hid hx; clear hx hk; have hk := HS.out _ (((((((((HE1.out.trans HE2.out).trans HE3.out).trans HE4.out).trans HE5.out).trans HE6.out).trans HE7.out).trans HE8.out).trans HE9.out).trans HE10.out))
      | (have hg := HE8; clear hg; go_at_call 20; (with_reducible refine (cmp_any (HI4.out _ HE8.out) (HI5.out _ (Ext.refl _))).mono ?_); rw [C4.out]; rintro e w9 ⟨rfl, hx⟩; have HE9 := Lib.hid hx; clear hx hk; have hk := HS.out _ ((((((((HE1.out.trans HE2.out).trans HE3.out).trans HE4.out).trans HE5.out).trans HE6.out).trans HE7.out).trans HE8.out).trans HE9.out))
      | (have hg := HE7; clear hg; go_at_call 25; (with_reducible refine (mul_any (HB.out.ext (HEW.out.trans ((((((HE1.out.trans HE2.out).trans HE3.out).trans HE4.out).trans HE5.out).trans HE6.out).trans HE7.out))) (HC.out.ext (HEW.out.trans ((((((HE1.out.trans HE2.out).trans HE3.out).trans HE4.out).trans HE5.out).trans HE6.out).trans HE7.out))) (HT.out.ext (HEW.out.trans ((((((HE1.out.trans HE2.out).trans HE3.out).trans HE4.out).trans HE5.out).trans HE6.out).trans HE7.out)))).mono ?_); rw [Mbc.out]; rintro e w8 ⟨A5, c5, rfl, hon, hx⟩; have HE8 := Lib.hid hx; have HI5 := Lib.hid (Dy.at_ hon Wmbc.out.1 Wmbc.out.2); clear hon; clear hx hk; have hk := HS.out _ (((((((HE1.out.trans HE2.out).trans HE3.out).trans HE4.out).trans HE5.out).trans HE6.out).trans HE7.out).trans HE8.out))
      | (have hg := HE6; clear hg; go_at_call 25; (with_reducible refine (mul_any (HA.out.ext (HEW.out.trans (((((HE1.out.trans HE2.out).trans HE3.out).trans HE4.out).trans HE5.out).trans HE6.out))) (HC.out.ext (HEW.out.trans (((((HE1.out.trans HE2.out).trans HE3.out).trans HE4.out).trans HE5.out).trans HE6.out))) (HT.out.ext (HEW.out.trans (((((HE1.out.trans HE2.out).trans HE3.out).trans HE4.out).trans HE5.out).trans HE6.out)))).mono ?_); rw [Mac.out]; rintro e w7 ⟨A4, c4, rfl, hon, hx⟩; have HE7 := Lib.hid hx; have HI4 := Lib.hid (Dy.at_ hon Wmac.out.1 Wmac.out.2); clear hon; clear hx hk; have hk := HS.out _ ((((((HE1.out.trans HE2.out).trans HE3.out).trans HE4.out).trans HE5.out).trans HE6.out).trans HE7.out))
      | (have hg := HE5; clear hg; go_at_call 20; (with_reducible refine (cmp_any (HI2.out _ HE5.out) (HI3.out _ (Ext.refl _))).mono ?_); rw [C3.out]; rintro e w6 ⟨rfl, hx⟩; have HE6 := Lib.hid hx; clear hx hk; have hk := HS.out _ (((((HE1.out.trans HE2.out).trans HE3.out).trans HE4.out).trans HE5.out).trans HE6.out))
      | (have hg := HE4; clear hg; go_at_call 23; (with_reducible refine (add_any (HB.out.ext (HEW.out.trans (((HE1.out.trans HE2.out).trans HE3.out).trans HE4.out))) (HC.out.ext (HEW.out.trans (((HE1.out.trans HE2.out).trans HE3.out).trans HE4.out))) (HT.out.ext (HEW.out.trans (((HE1.out.trans HE2.out).trans HE3.out).trans HE4.out)))).mono ?_); rw [Ebc.out]; rintro e w5 ⟨A3, c3, rfl, hon, hx⟩; have HE5 := Lib.hid hx; have HI3 := Lib.hid (Dy.at_ hon Wbc.out.1 Wbc.out.2); clear hon; clear hx hk; have hk := HS.out _ ((((HE1.out.trans HE2.out).trans HE3.out).trans HE4.out).trans HE5.out))
      | (have hg := HE3; clear hg; go_at_call 23; (with_reducible refine (add_any (HA.out.ext (HEW.out.trans ((HE1.out.trans HE2.out).trans HE3.out))) (HC.out.ext (HEW.out.trans ((HE1.out.trans HE2.out).trans HE3.out))) (HT.out.ext (HEW.out.trans ((HE1.out.trans HE2.out).trans HE3.out)))).mono ?_); rw [Eac.out]; rintro e w4 ⟨A2, c2, rfl, hon, hx⟩; have HE4 := Lib.hid hx; have HI2 := Lib.hid (Dy.at_ hon Wac.out.1 Wac.out.2); clear hon; clear hx hk; have hk := HS.out _ (((HE1.out.trans HE2.out).trans HE3.out).trans HE4.out))
      | (have hg := HE2; clear hg; go_at_call 19; (with_reducible refine (sign_any (HI1.out _ (Ext.refl _))).mono ?_); rw [C2.out]; rintro e w3 ⟨rfl, hx⟩; have HE3 := Lib.hid hx; clear hx hk; have hk := HS.out _ ((HE1.out.trans HE2.out).trans HE3.out))
      | (have hg := HE1; clear hg; go_at_call 24; (with_reducible refine (sub_any (HA.out.ext (HEW.out.trans HE1.out)) (HB.out.ext (HEW.out.trans HE1.out)) (HT.out.ext (HEW.out.trans HE1.out))).mono ?_); rw [Esb.out]; rintro e w2 ⟨A1, c1, rfl, hon, hx⟩; have HE2 := Lib.hid hx; have HI1 := Lib.hid (Dy.at_ hon Wsb.out.1 Wsb.out.2); clear hon; clear hx hk; have hk := HS.out _ (HE1.out.trans HE2.out))
      | (go_at_call 20; (with_reducible refine (cmp_any (HB.out.ext (HEW.out.trans (Ext.refl _))) (HA.out.ext (HEW.out.trans (Ext.refl _)))).mono ?_); rw [C1.out]; rintro e w1 ⟨rfl, hx⟩; have HE1 := Lib.hid hx; clear hx hk; have hk := HS.out _ HE1.out))
  all_goals
    go_wp2_with fail
    go_ret
    exact ⟨rfl, HEW.out.trans (((((((((((((((((((HE1.out.trans HE2.out).trans HE3.out).trans HE4.out).trans HE5.out).trans HE6.out).trans HE7.out).trans HE8.out).trans HE9.out).trans HE10.out).trans HE11.out).trans HE12.out).trans HE13.out).trans HE14.out).trans HE15.out).trans HE16.out).trans HE17.out).trans HE18.out).trans HE19.out).trans HE20.out)⟩

end Go.Proofs.YtaljininilaemaaDoor

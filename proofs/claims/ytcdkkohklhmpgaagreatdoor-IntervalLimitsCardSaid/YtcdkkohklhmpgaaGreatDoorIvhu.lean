/- Intervals: the walks of the functions (written by gi.py). -/
import Derived.Test.YtcdkkohklhmpgaaGreatDoorIvcd
import Derived.Deep.RegionHeld3
import Derived.Deep.DeepCutAuto
namespace Go.Proofs.YtcdkkohklhmpgaaGreatDoor
open Go.RowKit
attribute [local go_sem ↓] Go.wp_at_zero Go.wp_at_succ


set_option maxRecDepth 100000 in
set_option maxHeartbeats 1000000 in
theorem hull_any {w : World} {n1 n2 : Bool} {A B A' B' : Option Addr} {k c m e c' e' : Nat} {d1 d2 : Int} {a b : DV} {n3 n4 : Bool} {X Y X' Y' : Option Addr} {p q r s q' s' : Nat} {d3 d4 : Int} {x y : DV} (ha : Iw w n1 A k c d1 n2 B m e d2 a b A' c' B' e') (hb : Iw w n3 X p q d3 n4 Y r s d4 x y X' q' Y' s') (hT : Tabs w) :
    Calls Tryz.prog 147 #[iv n1 A k c d1 n2 B m e d2, iv n3 X p q d3 n4 Y r s d4] w (IvRes (lo4 a b x y) (hi4 a b x y) w) := by
  obtain ⟨L, hL⟩ : ∃ L, lo4 a b x y = L := ⟨_, rfl⟩
  obtain ⟨H, hH⟩ : ∃ H, hi4 a b x y = H := ⟨_, rfl⟩
  rw [hL, hH]
  have EL := Lib.hid hL; have EH := Lib.hid hH; clear hL hH
  have HA := Lib.hid ha; have HB := Lib.hid hb; have HT := Lib.hid hT; clear ha hb hT
  obtain ⟨X0, X1, XZ, XE⟩ := boxes3 w n1 n2 A B k c m e d1 d2 n3 n4 X Y p q r s d3 d4
  have HX0 := Lib.hid X0; have HX1 := Lib.hid X1; have HXZ := Lib.hid XZ; have HXE := Lib.hid XE
  clear X0 X1 XZ XE
  go_enter Tryz.func147, Tryz.ntmps147
  go_upto_region 1 with fail
  go_cut [] (fun wx => TwoI w a b A' c' B' e' x y X' q' Y' s' wx)
  case first =>
    go_region_with (first
      | (go_at_call 66; (with_reducible refine (HA.out.itv _ (HXE.out.trans (by (with_reducible (repeat (first | exact Ext.refl _ | assumption | (refine Ext.toSet ?_ (by omega)) | refine Ext.toAlloc ?_ | refine Ext.toDrew ?_ | refine Ext.toDrewN ?_ | refine Ext.trans ?_ (by assumption)))); (first | done | fail "no")))).mono ?_); rintro e1 wa ⟨rfl, hxwa⟩; obtain ⟨⟨ak0, ak1, ak2, ak3, ak4, ak5⟩, akz⟩ := HX0.out.ext (w' := wa) (by (with_reducible (repeat (first | exact Ext.refl _ | assumption | (refine Ext.toSet ?_ (by omega)) | refine Ext.toAlloc ?_ | refine Ext.toDrew ?_ | refine Ext.toDrewN ?_ | refine Ext.trans ?_ (by assumption)))); (first | done | fail "no")); obtain ⟨⟨al0, al1, al2, al3, al4, al5⟩, alz⟩ := HX1.out.ext (w' := wa) (by (with_reducible (repeat (first | exact Ext.refl _ | assumption | (refine Ext.toSet ?_ (by omega)) | refine Ext.toAlloc ?_ | refine Ext.toDrew ?_ | refine Ext.toDrewN ?_ | refine Ext.trans ?_ (by assumption)))); (first | done | fail "no")))
      | (go_at_call 66; (with_reducible refine (HB.out.itv _ (HXE.out.trans (by (with_reducible (repeat (first | exact Ext.refl _ | assumption | (refine Ext.toSet ?_ (by omega)) | refine Ext.toAlloc ?_ | refine Ext.toDrew ?_ | refine Ext.toDrewN ?_ | refine Ext.trans ?_ (by assumption)))); (first | done | fail "no")))).mono ?_); rintro e1 wb ⟨rfl, hxwb⟩; obtain ⟨⟨bk0, bk1, bk2, bk3, bk4, bk5⟩, bkz⟩ := HX0.out.ext (w' := wb) (by (with_reducible (repeat (first | exact Ext.refl _ | assumption | (refine Ext.toSet ?_ (by omega)) | refine Ext.toAlloc ?_ | refine Ext.toDrew ?_ | refine Ext.toDrewN ?_ | refine Ext.trans ?_ (by assumption)))); (first | done | fail "no")); obtain ⟨⟨bl0, bl1, bl2, bl3, bl4, bl5⟩, blz⟩ := HX1.out.ext (w' := wb) (by (with_reducible (repeat (first | exact Ext.refl _ | assumption | (refine Ext.toSet ?_ (by omega)) | refine Ext.toAlloc ?_ | refine Ext.toDrew ?_ | refine Ext.toDrewN ?_ | refine Ext.trans ?_ (by assumption)))); (first | done | fail "no"))))
    all_goals
      go_wp2_with fail
      go_meet
      exact twoI_of HX0.out HX1.out HXZ.out HXE.out (by (with_reducible (repeat (first | exact Ext.refl _ | assumption | (refine Ext.toSet ?_ (by omega)) | refine Ext.toAlloc ?_ | refine Ext.toDrew ?_ | refine Ext.toDrewN ?_ | refine Ext.trans ?_ (by assumption)))); (first | done | fail "no"))
  case rest =>
    clear HX0 HX1 HXZ HXE
    obtain ⟨hE, hX0, hX1, hXZ⟩ := hcut
    have HE := Lib.hid hE; have HX0 := Lib.hid hX0; have HX1 := Lib.hid hX1; have HXZ := Lib.hid hXZ
    clear hE hX0 hX1 hXZ
    obtain ⟨⟨k0, k1, k2, k3, k4, k5⟩, kz⟩ := HX0.out
    obtain ⟨⟨l0, l1, l2, l3, l4, l5⟩, lz⟩ := HX1.out
    go_wp2_with fail
    have EA := fun (W : World) (o : Obj) => Ext.alloc W o
    with_reducible refine (least3 (HA.out.dya.ext (HE.out.trans (EA _ _))) (HA.out.dyb.ext (HE.out.trans (EA _ _))) (HB.out.dya.ext (HE.out.trans (EA _ _))) (HB.out.dyb.ext (HE.out.trans (EA _ _))) (HT.out.ext (HE.out.trans (EA _ _))) (St.mk' (World.cell?_alloc_new _ _ _ 0) (World.cell?_alloc_new _ _ _ 1) (World.cell?_alloc_new _ _ _ 2)) (World.cell?_alloc_new _ _ _ 3) (World.cell?_alloc_new _ _ _ 4) (World.cell?_alloc_new _ _ _ 5) (World.cell?_alloc_new _ _ _ 6) (World.cell?_alloc_new _ _ _ 7) (World.cell?_alloc_new _ _ _ 8)).mono ?_
    rw [EL.out, EH.out]
    rintro e1 w1 ⟨A1, c1, B1, e1', rfl, hfa, hfb, hx⟩
    have FA := Lib.hid hfa; have FB := Lib.hid hfb; clear hfa hfb k0 k1 k2 k3 k4 k5 kz l0 l1 l2 l3 l4 l5 lz
    obtain ⟨⟨r0, r1, r2, r3, r4, r5⟩, rz⟩ := HXZ.out.ext ((EA _ _).trans hx)
    have HF := Lib.hid (HE.out.trans ((EA _ _).trans hx))
    have hz := HXZ.out.lt
    clear hx EA
    go_wp2_with fail
    exact bodyPost_ret (v := ivd L A1 c1 H B1 e1') (by simp [results, Tryz.results147, go_sem, r0, r1, r2, r3, r4, r5]) rfl (IvRes.end6 rfl FA.out FB.out HF.out (by omega) (by simp; omega) (by simp; omega))
end Go.Proofs.YtcdkkohklhmpgaaGreatDoor

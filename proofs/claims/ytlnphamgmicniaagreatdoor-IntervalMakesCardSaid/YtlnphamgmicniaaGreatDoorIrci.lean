/- The reference's intervals: the walks of the functions (written by gir.py). -/
import Derived.Test.YtlnphamgmicniaaGreatDoorIrms
import Derived.Test.YtlnphamgmicniaaGreatDoorIvco
import Derived.Deep.RegionHeld3
import Derived.Deep.DeepCutAuto
import Derived.Test.YtlnphamgmicniaaGreatDoorRof
import Derived.Test.YtlnphamgmicniaaGreatDoorIvmk
import Derived.Test.YtlnphamgmicniaaGreatDoorIvcd
namespace Go.Proofs.YtlnphamgmicniaaGreatDoor

/-! ### Irco -/
section
open Go.RowKit
attribute [local go_sem ↓] Go.wp_at_zero Go.wp_at_succ

set_option maxRecDepth 100000 in
set_option maxHeartbeats 1000000 in
theorem ricontains_any {w : World} {n1 n2 : Bool} {A B A' B' : Option Addr} {k c m e c' e' : Nat} {d1 d2 : Int} {a b : DV} {n3 : Bool} {X X' : Option Addr} {p q q' : Nat} {d3 : Int} {x : DV} (ha : Iw w n1 A k c d1 n2 B m e d2 a b A' c' B' e') (hb : Dy w n3 X p q d3 x X' q') (hlx : len x.m ≤ 4194304) :
    Calls Tryz.prog 50 #[iv n1 A k c d1 n2 B m e d2, dv n3 X p q d3] w fun e' w' => e' = .returned (.bool (conB a b x)) ∧ Ext w w' := by
  obtain ⟨v, hv⟩ : ∃ v, cmpD a x = v := ⟨_, rfl⟩
  obtain ⟨z, hz⟩ : ∃ z, cmpD x b = z := ⟨_, rfl⟩
  by_cases h : v ≤ 0
  · rw [conB_t hv h hz]
    have Ev := Lib.hid hv; have Ez := Lib.hid hz; clear hv hz
    have SA := Lib.hid (bd_sub (bd_end ha.wa) (⟨hb.wf, hlx⟩ : Bd x)); have SB := Lib.hid (bd_sub (⟨hb.wf, hlx⟩ : Bd x) (bd_end ha.wb)); have HA := Lib.hid ha; have HB := Lib.hid hb; clear ha hb
    obtain ⟨X0, X1, XE⟩ := boxesN w n1 n2 A B k c m e d1 d2 n3 X p q d3
    have HX0 := Lib.hid X0; have HX1 := Lib.hid X1; have HXE := Lib.hid XE
    clear X0 X1 XE
    go_enter Tryz.func50, Tryz.ntmps50
    go_upto_region 1 with fail
    go_cut [] (fun wx => NumI w a b A' c' B' e' n3 X p q d3 wx)
    case first =>
      obtain ⟨⟨k0, k1, k2, k3, k4, k5⟩, kz⟩ := HX0.out
      go_wp2_with (go_at_call 78; (with_reducible refine (HA.out.nrm _ HXE.out).mono ?_); rintro e1 w1 ⟨rfl, hx⟩; clear k0 k1 k2 k3 k4 k5 kz; obtain ⟨⟨k0, k1, k2, k3, k4, k5⟩, kz⟩ := HX0.out.ext hx; have HX := Lib.hid hx; clear hx)
      go_meet
      exact numI_of HX0.out HX1.out HXE.out HX.out
    case rest =>
      clear HX0 HX1 HXE
      obtain ⟨hE, hX0, hX1⟩ := hcut
      have HE := Lib.hid hE; have HX0 := Lib.hid hX0; have HX1 := Lib.hid hX1
      clear hE hX0 hX1
      obtain ⟨⟨k0, k1, k2, k3, k4, k5⟩, kz⟩ := HX0.out
      obtain ⟨⟨l0, l1, l2⟩, lz⟩ := HX1.out
      go_wp2_with (first
        | (have hg := X1; clear hg; go_at_call 93; (with_reducible refine (rcmp_any (HB.out.ext (HE.out.trans X1.out)) (HA.out.dyb.ext (HE.out.trans X1.out)) SB.out.1 SB.out.2).mono ?_); rw [Ez.out]; rintro e2 w2 ⟨rfl, hx⟩; have X2 := Lib.hid (X1.out.trans hx); clear hx)
        | (go_at_call 93; (with_reducible refine (rcmp_any (HA.out.dya.ext (HE.out.trans (Ext.refl _))) (HB.out.ext (HE.out.trans (Ext.refl _))) SA.out.1 SA.out.2).mono ?_); rw [Ev.out]; rintro e1 w1 ⟨rfl, hx⟩; have X1 := Lib.hid hx; clear k0 k1 k2 k3 k4 k5 kz l0 l1 l2 lz; obtain ⟨⟨k0, k1, k2, k3, k4, k5⟩, kz⟩ := HX0.out.ext hx; obtain ⟨⟨l0, l1, l2⟩, lz⟩ := HX1.out.ext hx; clear hx))
      go_ret
      exact ⟨rfl, HE.out.trans X2.out⟩
  · rw [conB_f hv h]
    have Ev := Lib.hid hv; have Ez := Lib.hid hz; clear hv hz
    have SA := Lib.hid (bd_sub (bd_end ha.wa) (⟨hb.wf, hlx⟩ : Bd x)); have SB := Lib.hid (bd_sub (⟨hb.wf, hlx⟩ : Bd x) (bd_end ha.wb)); have HA := Lib.hid ha; have HB := Lib.hid hb; clear ha hb
    obtain ⟨X0, X1, XE⟩ := boxesN w n1 n2 A B k c m e d1 d2 n3 X p q d3
    have HX0 := Lib.hid X0; have HX1 := Lib.hid X1; have HXE := Lib.hid XE
    clear X0 X1 XE
    go_enter Tryz.func50, Tryz.ntmps50
    go_upto_region 1 with fail
    go_cut [] (fun wx => NumI w a b A' c' B' e' n3 X p q d3 wx)
    case first =>
      obtain ⟨⟨k0, k1, k2, k3, k4, k5⟩, kz⟩ := HX0.out
      go_wp2_with (go_at_call 78; (with_reducible refine (HA.out.nrm _ HXE.out).mono ?_); rintro e1 w1 ⟨rfl, hx⟩; clear k0 k1 k2 k3 k4 k5 kz; obtain ⟨⟨k0, k1, k2, k3, k4, k5⟩, kz⟩ := HX0.out.ext hx; have HX := Lib.hid hx; clear hx)
      go_meet
      exact numI_of HX0.out HX1.out HXE.out HX.out
    case rest =>
      clear HX0 HX1 HXE
      obtain ⟨hE, hX0, hX1⟩ := hcut
      have HE := Lib.hid hE; have HX0 := Lib.hid hX0; have HX1 := Lib.hid hX1
      clear hE hX0 hX1
      obtain ⟨⟨k0, k1, k2, k3, k4, k5⟩, kz⟩ := HX0.out
      obtain ⟨⟨l0, l1, l2⟩, lz⟩ := HX1.out
      go_wp2_with (go_at_call 93; (with_reducible refine (rcmp_any (HA.out.dya.ext (HE.out.trans (Ext.refl _))) (HB.out.ext (HE.out.trans (Ext.refl _))) SA.out.1 SA.out.2).mono ?_); rw [Ev.out]; rintro e1 w1 ⟨rfl, hx⟩; have X1 := Lib.hid hx; clear k0 k1 k2 k3 k4 k5 kz l0 l1 l2 lz; obtain ⟨⟨k0, k1, k2, k3, k4, k5⟩, kz⟩ := HX0.out.ext hx; obtain ⟨⟨l0, l1, l2⟩, lz⟩ := HX1.out.ext hx; clear hx)
      go_ret
      exact ⟨rfl, HE.out.trans X1.out⟩
end

/-! ### Irit -/
section
open Go.RowKit
attribute [local go_sem ↓] Go.wp_at_zero Go.wp_at_succ


set_option maxRecDepth 100000 in
set_option maxHeartbeats 1000000 in
theorem riints_any {w : World} (p q : Int) (p1 : -9223372036854775808 ≤ p) (p2 : p ≤ 9223372036854775807) (q1 : -9223372036854775808 ≤ q) (q2 : q ≤ 9223372036854775807) :
    Calls Tryz.prog 46 #[I p, I q] w (IvRes (lo2 (ofI p 0) (ofI q 0)) (hi2 (ofI p 0) (ofI q 0)) w) := by
  obtain ⟨u, hu⟩ : ∃ u, ofI p 0 = u := ⟨_, rfl⟩
  obtain ⟨v, hv⟩ : ∃ v, ofI q 0 = v := ⟨_, rfl⟩
  have Wu : Hid (Bd u) := hu ▸ bd_of p p1 p2
  have Wv : Hid (Bd v) := hv ▸ bd_of q q1 q2
  rw [hu, hv]
  have Eu := Lib.hid hu; have Ev := Lib.hid hv; have P1 := Lib.hid p1; have P2 := Lib.hid p2; have Q1 := Lib.hid q1; have Q2 := Lib.hid q2; clear hu hv p1 p2 q1 q2
  have HXZ := Lib.hid (B6.new w (.bool false) (.slice none 0 0) (I 0) (.bool false) (.slice none 0 0) (I 0) 37)
  have HE := Lib.hid (Ext.alloc w (.cells #[.bool false, .slice none 0 0, I 0, .bool false, .slice none 0 0, I 0] 37))
  generalize hWc : w.alloc (.cells #[.bool false, .slice none 0 0, I 0, .bool false, .slice none 0 0, I 0] 37) = W9 at HXZ HE
  go_enter Tryz.func46, Tryz.ntmps46
  go_upto_region 1 with fail
  (try rw [hWc])
  clear hWc
  have hlx := HXZ.out.lt; have hnx := Nat.ne_of_lt hlx
  go_wp2_with (first
    | (have hg := hx2; clear hg; go_at_call 79; (with_reducible refine (span2 (D1.out.ext (by (with_reducible (repeat (first | exact Ext.refl _ | assumption | (refine Ext.toSet ?_ (by omega)) | refine Ext.toAlloc ?_ | refine Ext.toDrew ?_ | refine Ext.toDrewN ?_ | refine Ext.trans ?_ (by assumption)))); (first | done | fail "no"))) (D2.out.ext (by (with_reducible (repeat (first | exact Ext.refl _ | assumption | (refine Ext.toSet ?_ (by omega)) | refine Ext.toAlloc ?_ | refine Ext.toDrew ?_ | refine Ext.toDrewN ?_ | refine Ext.trans ?_ (by assumption)))); (first | done | fail "no"))) Wu.out Wv.out (S6.new _ _ _ _ _ _ _ _)).mono ?_); rintro e1 w3 ⟨A3, c3, B3, k3, rfl, hfa, hfb, hx3⟩; have FA := Lib.hid hfa; have FB := Lib.hid hfb; clear hfa hfb; obtain ⟨⟨r0, r1, r2, r3, r4, r5⟩, rz⟩ := HXZ.out.ext (w' := w3) (by (with_reducible (repeat (first | exact Ext.refl _ | assumption | (refine Ext.toSet ?_ (by omega)) | refine Ext.toAlloc ?_ | refine Ext.toDrew ?_ | refine Ext.toDrewN ?_ | refine Ext.trans ?_ (by assumption)))); (first | done | fail "no")))
    | (have hg := hx1; clear hg; go_at_call 95; (with_reducible refine (rof_any q _ Q1.out Q2.out).mono ?_); rw [Ev.out]; rintro e1 w2 ⟨A2, c2, rfl, hon, hx2⟩; have D2 := Lib.hid (Dy.of_on hon Wv.out.1 Wv.out.lim (Ext.refl _)); clear hon)
    | (go_at_call 95; (with_reducible refine (rof_any p _ P1.out P2.out).mono ?_); rw [Eu.out]; rintro e1 w1 ⟨A1, c1, rfl, hon, hx1⟩; have D1 := Lib.hid (Dy.of_on hon Wu.out.1 Wu.out.lim (Ext.refl _)); clear hon))
  have HF := Lib.hid (HE.out.trans (show Ext W9 w3 from (by (with_reducible (repeat (first | exact Ext.refl _ | assumption | (refine Ext.toSet ?_ (by omega)) | refine Ext.toAlloc ?_ | refine Ext.toDrew ?_ | refine Ext.toDrewN ?_ | refine Ext.trans ?_ (by assumption)))); (first | done | fail "no"))))
  have hz2 := Ext.size (show Ext W9 w2 from (by (with_reducible (repeat (first | exact Ext.refl _ | assumption | (refine Ext.toSet ?_ (by omega)) | refine Ext.toAlloc ?_ | refine Ext.toDrew ?_ | refine Ext.toDrewN ?_ | refine Ext.trans ?_ (by assumption)))); (first | done | fail "no")))
  exact bodyPost_ret (v := ivd (lo2 u v) A3 c3 (hi2 u v) B3 k3) (by simp [results, Tryz.results46, go_sem, r0, r1, r2, r3, r4, r5]) rfl (IvRes.end6 rfl FA.out FB.out HF.out (by omega) (by (try simp); omega) (by (try simp); omega))
end

/-! ### Irmk -/
section
open Go.RowKit
attribute [local go_sem ↓] Go.wp_at_zero Go.wp_at_succ

def RvOk (a b : DV) (w : World) (e : Ending) (w' : World) : Prop := ∃ A c B k, e = .returned (.tuple #[ivd a A c b B k, I 0]) ∧ Fr w' w.heap.size A (len a.m) c (dg a.m) ∧ Fr w' w.heap.size B (len b.m) k (dg b.m) ∧ Ext w w'
def RvErr (k : Int) (w : World) (e : Ending) (w' : World) : Prop := e = .returned (.tuple #[iv false none 0 0 0 false none 0 0 0, I k]) ∧ Ext w w'
theorem RvOk.end6 {a b : DV} {w w2 : World} {A B : Option Addr} {c k g b1 b2 : Nat} {e : Ending} {u0 u1 u2 u3 u4 u5 : Value} (he : e = .returned (.tuple #[ivd a A c b B k, I 0])) (ha : Fr w2 b1 A (len a.m) c (dg a.m)) (hb : Fr w2 b2 B (len b.m) k (dg b.m)) (hx : Ext w w2) (hg : w.heap.size ≤ g) (h1 : g < b1) (h2 : g < b2) :
    RvOk a b w e ((((((w2.setCell ⟨g, 0, none⟩ u0).setCell ⟨g, 1, none⟩ u1).setCell ⟨g, 2, none⟩ u2).setCell ⟨g, 3, none⟩ u3).setCell ⟨g, 4, none⟩ u4).setCell ⟨g, 5, none⟩ u5) :=
  ⟨A, c, B, k, he, (ha.set6 h1 _ _ _ _ _ _).mono (by omega), (hb.set6 h2 _ _ _ _ _ _).mono (by omega), ext_set6 hx hg _ _ _ _ _ _⟩
set_option maxRecDepth 100000 in
set_option maxHeartbeats 1000000 in
theorem rimake_err {w : World} {n1 n2 : Bool} {A A' B B' : Option Addr} {k c c' m e e' : Nat} {d1 d2 : Int} {x y : DV} (ha : Dy w n1 A k c d1 x A' c') (hb : Dy w n2 B m e d2 y B' e') (bx : Bd x) (by' : Bd y) (hc : 0 < cmpD x y) :
    Calls Tryz.prog 42 #[dv n1 A k c d1, dv n2 B m e d2] w (RvErr 3 w) := by
  obtain ⟨z, hz⟩ : ∃ z, cmpD x y = z := ⟨_, rfl⟩
  rw [hz] at hc
  have EZ := Lib.hid hz; clear hz
  have HA := Lib.hid ha; have HB := Lib.hid hb; have BX := Lib.hid bx; have BY := Lib.hid by'; clear ha hb bx by'
  obtain ⟨X0, X1, XZ, XE⟩ := boxesM w n1 n2 A B k c m e d1 d2
  have HX0 := Lib.hid X0; have HX1 := Lib.hid X1; have HXZ := Lib.hid XZ; have HXE := Lib.hid XE
  clear X0 X1 XZ XE
  obtain ⟨⟨k0, k1, k2⟩, kz⟩ := HX0.out; obtain ⟨⟨l0, l1, l2⟩, lz⟩ := HX1.out
  go_enter Tryz.func42, Tryz.ntmps42
  go_wp2_with (go_at_call 93; (with_reducible refine (rcmp_any (HA.out.ext HXE.out) (HB.out.ext HXE.out) (bd_sub BX.out BY.out).1 (bd_sub BX.out BY.out).2).mono ?_); rw [EZ.out]; rintro e1 w1 ⟨rfl, hx⟩; have HY := Lib.hid (HXE.out.trans hx); have Z1 := Lib.hid (HXZ.out.ext hx); clear k0 k1 k2 kz l0 l1 l2 lz; obtain ⟨⟨k0, k1, k2⟩, kz⟩ := HX0.out.ext hx; obtain ⟨⟨l0, l1, l2⟩, lz⟩ := HX1.out.ext hx; obtain ⟨⟨r0, r1, r2, r3, r4, r5⟩, rz⟩ := HXZ.out.ext hx; clear hx)
  exact bodyPost_ret (v := .tuple #[iv false none 0 0 0 false none 0 0 0, I 3]) (by simp [results, Tryz.results42, go_sem, r0, r1, r2, r3, r4, r5]) rfl ⟨rfl, ext_set6 HY.out (by omega) _ _ _ _ _ _⟩

set_option maxRecDepth 100000 in
set_option maxHeartbeats 1000000 in
theorem rimake_ok {w : World} {n1 n2 : Bool} {A A' B B' : Option Addr} {k c c' m e e' : Nat} {d1 d2 : Int} {x y : DV} (ha : Dy w n1 A k c d1 x A' c') (hb : Dy w n2 B m e d2 y B' e') (bx : Bd x) (by' : Bd y) (hc : ¬ 0 < cmpD x y) :
    Calls Tryz.prog 42 #[dv n1 A k c d1, dv n2 B m e d2] w (RvOk (lo2 x y) (hi2 x y) w) := by
  obtain ⟨z, hz⟩ : ∃ z, cmpD x y = z := ⟨_, rfl⟩
  rw [hz] at hc
  have EZ := Lib.hid hz; clear hz
  have HA := Lib.hid ha; have HB := Lib.hid hb; have BX := Lib.hid bx; have BY := Lib.hid by'; clear ha hb bx by'
  obtain ⟨X0, X1, XZ, XE⟩ := boxesM w n1 n2 A B k c m e d1 d2
  have HX0 := Lib.hid X0; have HX1 := Lib.hid X1; have HXZ := Lib.hid XZ; have HXE := Lib.hid XE
  clear X0 X1 XZ XE
  obtain ⟨⟨k0, k1, k2⟩, kz⟩ := HX0.out; obtain ⟨⟨l0, l1, l2⟩, lz⟩ := HX1.out
  go_enter Tryz.func42, Tryz.ntmps42
  go_wp2_with (go_at_call 93; (with_reducible refine (rcmp_any (HA.out.ext HXE.out) (HB.out.ext HXE.out) (bd_sub BX.out BY.out).1 (bd_sub BX.out BY.out).2).mono ?_); rw [EZ.out]; rintro e1 w1 ⟨rfl, hx⟩; have HY := Lib.hid (HXE.out.trans hx); have Z1 := Lib.hid (HXZ.out.ext hx); clear k0 k1 k2 kz l0 l1 l2 lz; obtain ⟨⟨k0, k1, k2⟩, kz⟩ := HX0.out.ext hx; obtain ⟨⟨l0, l1, l2⟩, lz⟩ := HX1.out.ext hx; clear hx)
  have EA := fun (W : World) (o : Obj) => Ext.alloc W o
  with_reducible refine (span2 (HA.out.ext (HY.out.trans (EA _ _))) (HB.out.ext (HY.out.trans (EA _ _))) BX.out BY.out (S6.new _ _ _ _ _ _ _ _)).mono ?_
  rintro e1 w4 ⟨A4, c4, B4, e4, rfl, hfa, hfb, hx⟩
  have FA := Lib.hid hfa; have FB := Lib.hid hfb; clear hfa hfb
  obtain ⟨⟨r0, r1, r2, r3, r4, r5⟩, rz⟩ := Z1.out.ext ((EA _ _).trans hx)
  have HF := Lib.hid (HY.out.trans ((EA _ _).trans hx))
  have hz := Z1.out.lt
  clear hx EA
  go_wp2_with fail
  exact bodyPost_ret (v := .tuple #[ivd (lo2 x y) A4 c4 (hi2 x y) B4 e4, I 0]) (by simp [results, Tryz.results42, go_sem, r0, r1, r2, r3, r4, r5]) rfl (RvOk.end6 rfl FA.out FB.out HF.out (by omega) (by (try simp); omega) (by (try simp); omega))
end

/-! ### Ivpt -/
section
open Go.RowKit

set_option maxRecDepth 100000 in
set_option maxHeartbeats 60000000 in
theorem least_one {w : World} {n0 : Bool} {A0 A0' : Option Addr} {k0 c0 c0' : Nat} {d0 : Int} {x : DV} (hx0 : Dy w n0 A0 k0 c0 d0 x A0' c0') (hT : Tabs w) :
    Calls Tryz.prog 77 #[dv n0 A0 k0 c0 d0, .slice none 0 0] w (IvRes x x w) := by
  have HX := Lib.hid hx0; have HT := Lib.hid hT; clear hx0 hT
  have H0 : Hid (minD x x = x ∧ maxD x x = x) := ⟨minD_self x, maxD_self x⟩
  have B0 := Lib.hid ((Bx.new w (.bool n0) (.slice A0 k0 c0) (I d0) 25).ext (Ext.alloc _ (.cells #[.bool false, .slice none 0 0, I 0, .bool false, .slice none 0 0, I 0] 37)))
  have B1 : Hid (B6 ((w.alloc (.cells #[.bool n0, .slice A0 k0 c0, I d0] 25)).alloc (.cells #[.bool false, .slice none 0 0, I 0, .bool false, .slice none 0 0, I 0] 37)) (w.heap.size + 1) (.bool false) (.slice none 0 0) (I 0) (.bool false) (.slice none 0 0) (I 0)) := by
    have s := B6.new (w.alloc (.cells #[.bool n0, .slice A0 k0 c0, I d0] 25)) (.bool false) (.slice none 0 0) (I 0) (.bool false) (.slice none 0 0) (I 0) 37
    rw [show (w.alloc (.cells #[.bool n0, .slice A0 k0 c0, I d0] 25)).heap.size = w.heap.size + 1 by simp] at s
    exact s
  have E1 : Hid (Ext w ((w.alloc (.cells #[.bool n0, .slice A0 k0 c0, I d0] 25)).alloc (.cells #[.bool false, .slice none 0 0, I 0, .bool false, .slice none 0 0, I 0] 37))) := (Ext.alloc _ _).trans (Ext.alloc _ _)
  go_enter Tryz.func77, Tryz.ntmps77
  go_upto_region 1 with fail
  go_cut [5, 6] (fun s5 s6 wx => ∃ p q, s5 = .pointer (some ⟨p, 0, none⟩) ∧ s6 = .pointer (some ⟨q, 0, none⟩) ∧ Hid (Lst w wx p q x x))
  case first =>
    have hsz : ((w.alloc (.cells #[.bool n0, .slice A0 k0 c0, I d0] 25)).alloc (.cells #[.bool false, .slice none 0 0, I 0, .bool false, .slice none 0 0, I 0] 37)).heap.size = w.heap.size + 1 + 1 := by simp
    have HS3 : Hid (∀ w', Ext ((w.alloc (.cells #[.bool n0, .slice A0 k0 c0, I d0] 25)).alloc (.cells #[.bool false, .slice none 0 0, I 0, .bool false, .slice none 0 0, I 0] 37)) w' → w'.cell? ⟨w.heap.size, 0, none⟩ = some (.bool n0) ∧ w'.cell? ⟨w.heap.size, 1, none⟩ = some (.slice A0 k0 c0) ∧ w'.cell? ⟨w.heap.size, 2, none⟩ = some (I d0)) := fun w' e => by
      obtain ⟨p0, q0, r0⟩ := (B0.out.ext e).1
      exact ⟨p0, q0, r0⟩
    have B1' := B1
    generalize hW : (w.alloc (.cells #[.bool n0, .slice A0 k0 c0, I d0] 25)).alloc (.cells #[.bool false, .slice none 0 0, I 0, .bool false, .slice none 0 0, I 0] 37) = W0 at *
    clear hW
    have HSZ := Lib.hid hsz
    clear hsz
    go_region_held3 (fun w' => w'.cell? ⟨w.heap.size, 0, none⟩ = some (.bool n0) ∧ w'.cell? ⟨w.heap.size, 1, none⟩ = some (.slice A0 k0 c0) ∧ w'.cell? ⟨w.heap.size, 2, none⟩ = some (I d0)) (first | with_reducible assumption | exact HS3.out _ (by (with_reducible (repeat (first | exact Ext.refl _ | assumption | (refine Ext.toSet ?_ (by omega)) | refine Ext.toAlloc ?_ | refine Ext.toDrew ?_ | refine Ext.toDrewN ?_ | refine Ext.trans ?_ (by assumption)))); (first | done | fail "no")))
      (first
        | (have hg := hx1; clear hg; go_at_call 88; (with_reducible refine (max_any (HX.out.ext (E1.out.trans (by (with_reducible (repeat (first | exact Ext.refl _ | assumption | (refine Ext.toSet ?_ (by omega)) | refine Ext.toAlloc ?_ | refine Ext.toDrew ?_ | refine Ext.toDrewN ?_ | refine Ext.trans ?_ (by assumption)))); (first | done | fail "no")))) (HX.out.ext (E1.out.trans (by (with_reducible (repeat (first | exact Ext.refl _ | assumption | (refine Ext.toSet ?_ (by omega)) | refine Ext.toAlloc ?_ | refine Ext.toDrew ?_ | refine Ext.toDrewN ?_ | refine Ext.trans ?_ (by assumption)))); (first | done | fail "no")))) (HT.out.ext (E1.out.trans (by (with_reducible (repeat (first | exact Ext.refl _ | assumption | (refine Ext.toSet ?_ (by omega)) | refine Ext.toAlloc ?_ | refine Ext.toDrew ?_ | refine Ext.toDrewN ?_ | refine Ext.trans ?_ (by assumption)))); (first | done | fail "no"))))).mono ?_); rw [H0.out.2]; rintro e w2 ⟨A2, c2, rfl, hon2, hx2⟩; have O2 := Lib.hid hon2; clear hon2; have g2 := Ext.size hx2; (try simp only [World.size_alloc] at g2); (first
          | (have V1 := Lib.hid (U1.out.ext hx2); have V2 := Lib.hid (U2.out.ext hx2); obtain ⟨⟨v10, v11, v12⟩, v13⟩ := V1.out; obtain ⟨⟨v20, v21, v22⟩, v23⟩ := V2.out; have l1 := V1.out.lt; have m1 := Nat.ne_of_lt l1; have n1 := Nat.ne_of_gt l1; have l2 := V2.out.lt; have m2 := Nat.ne_of_lt l2; have n2 := Nat.ne_of_gt l2)
          | ((with_reducible have u2 := one_new hx2); have V2 := Lib.hid u2; have V1 := Lib.hid (U1.out.ext ((Ext.alloc _ _).trans hx2)); clear u2; obtain ⟨⟨v10, v11, v12⟩, v13⟩ := V1.out; obtain ⟨⟨v20, v21, v22⟩, v23⟩ := V2.out; have l1 := V1.out.lt; have m1 := Nat.ne_of_lt l1; have n1 := Nat.ne_of_gt l1; have l2 := V2.out.lt; have m2 := Nat.ne_of_lt l2; have n2 := Nat.ne_of_gt l2)
          | (have V1 := Lib.hid (U1.out.ext hx2); obtain ⟨⟨v10, v11, v12⟩, v13⟩ := V1.out; have l1 := V1.out.lt; have m1 := Nat.ne_of_lt l1; have n1 := Nat.ne_of_gt l1)
          | ((with_reducible have uu := two_new hx2); obtain ⟨u1, u2⟩ := uu; have V1 := Lib.hid u1; have V2 := Lib.hid u2; clear u1 u2; obtain ⟨⟨v10, v11, v12⟩, v13⟩ := V1.out; obtain ⟨⟨v20, v21, v22⟩, v23⟩ := V2.out; have l1 := V1.out.lt; have m1 := Nat.ne_of_lt l1; have n1 := Nat.ne_of_gt l1; have l2 := V2.out.lt; have m2 := Nat.ne_of_lt l2; have n2 := Nat.ne_of_gt l2)
          | ((with_reducible have u1 := one_new hx2); have V1 := Lib.hid u1; clear u1; obtain ⟨⟨v10, v11, v12⟩, v13⟩ := V1.out; have l1 := V1.out.lt; have m1 := Nat.ne_of_lt l1; have n1 := Nat.ne_of_gt l1)
          | skip))
        | (go_at_call 86; (with_reducible refine (min_any (HX.out.ext (E1.out.trans (by (with_reducible (repeat (first | exact Ext.refl _ | assumption | (refine Ext.toSet ?_ (by omega)) | refine Ext.toAlloc ?_ | refine Ext.toDrew ?_ | refine Ext.toDrewN ?_ | refine Ext.trans ?_ (by assumption)))); (first | done | fail "no")))) (HX.out.ext (E1.out.trans (by (with_reducible (repeat (first | exact Ext.refl _ | assumption | (refine Ext.toSet ?_ (by omega)) | refine Ext.toAlloc ?_ | refine Ext.toDrew ?_ | refine Ext.toDrewN ?_ | refine Ext.trans ?_ (by assumption)))); (first | done | fail "no")))) (HT.out.ext (E1.out.trans (by (with_reducible (repeat (first | exact Ext.refl _ | assumption | (refine Ext.toSet ?_ (by omega)) | refine Ext.toAlloc ?_ | refine Ext.toDrew ?_ | refine Ext.toDrewN ?_ | refine Ext.trans ?_ (by assumption)))); (first | done | fail "no"))))).mono ?_); rw [H0.out.1]; rintro e w1 ⟨A1, c1, rfl, hon1, hx1⟩; have O1 := Lib.hid hon1; clear hon1; have g1 := Ext.size hx1; (try simp only [World.size_drew, World.size_alloc] at g1); (first | ((with_reducible have uu := two_newd hx1); obtain ⟨u1, u2⟩ := uu; have U1 := Lib.hid u1; have U2 := Lib.hid u2; clear u1 u2) | ((with_reducible have u1 := one_newd hx1); have U1 := Lib.hid u1; clear u1) | skip)))
    all_goals
      go_wp2_with fail
      go_meet
      have o1 := O1.out
      have o2 := O2.out
      simp only [World.size_drew, World.size_alloc] at o1 o2
      refine ⟨_, _, rfl, rfl, A1, c1, A2, c2, E1.out.trans (by (with_reducible (repeat (first | exact Ext.refl _ | assumption | (refine Ext.toSet ?_ (by omega)) | refine Ext.toAlloc ?_ | refine Ext.toDrew ?_ | refine Ext.toDrewN ?_ | refine Ext.trans ?_ (by assumption)))); (first | done | fail "no")), ⟨⟨by go_simp, by go_simp, by go_simp⟩, fun i => by go_simp⟩, ⟨⟨by go_simp, by go_simp, by go_simp⟩, fun i => by go_simp⟩, B1'.out.ext (by (with_reducible (repeat (first | exact Ext.refl _ | assumption | (refine Ext.toSet ?_ (by omega)) | refine Ext.toAlloc ?_ | refine Ext.toDrew ?_ | refine Ext.toDrewN ?_ | refine Ext.trans ?_ (by assumption)))); (first | done | fail "no")), by omega, by have := HSZ.out; omega, by have := HSZ.out; omega, ?_, ?_⟩
      · with_reducible (repeat (first | refine Off.setp ?_ _ _ | refine Off.setq ?_ _ _ | refine Off.toAlloc ?_))
        exact (On.off o1 (by have := HSZ.out; omega) (by omega) (by omega)).ext (by (with_reducible (repeat (first | exact Ext.refl _ | assumption | (refine Ext.toSet ?_ (by omega)) | refine Ext.toAlloc ?_ | refine Ext.toDrew ?_ | refine Ext.toDrewN ?_ | refine Ext.trans ?_ (by assumption)))); (first | done | fail "no"))
      · with_reducible (repeat (first | refine Off.setp ?_ _ _ | refine Off.setq ?_ _ _ | refine Off.toAlloc ?_))
        exact (On.off o2 (by have := HSZ.out; omega) (by omega) (by omega)).ext (by (with_reducible (repeat (first | exact Ext.refl _ | assumption | (refine Ext.toSet ?_ (by omega)) | refine Ext.toAlloc ?_ | refine Ext.toDrew ?_ | refine Ext.toDrewN ?_ | refine Ext.trans ?_ (by assumption)))); (first | done | fail "no"))
  case rest =>
    obtain ⟨p, q, rfl, rfl, hl⟩ := hcut
    clear H0 B0 B1 E1
    go_wp2
    go_loopw [17] (fun s wr => s = I 0 ∧ Hid (Lst w wr p q x x)) (fun s _ => 0)
    case atStart => exact ⟨rfl, hl⟩
    case round =>
      obtain ⟨rfl, hlr⟩ := hrel
      clear hl
      obtain ⟨A, c, B, e, hx, hp, hq, hz, hne, h1, h2, oa, ob⟩ := hlr.out
      have OA := Lib.hid oa; have OB := Lib.hid ob; have EW := Lib.hid hx
      have hp0 := hp.lt; have hq0 := hq.lt
      obtain ⟨⟨a0, a1, a2⟩, a3⟩ := hp
      obtain ⟨⟨b0, b1, b2⟩, b3⟩ := hq
      obtain ⟨⟨r0, r1, r2, r3, r4, r5⟩, rz⟩ := hz
      have hpn := Nat.ne_of_lt h1; have hqn := Nat.ne_of_lt h2; have hpn' := Nat.ne_of_gt h1; have hqn' := Nat.ne_of_gt h2
      clear hlr hx hne oa ob HX HT
      go_wp2
      exact bodyPost_ret (v := ivd x A c x B e) (by simp [results, Tryz.results77, go_sem, r0, r1, r2, r3, r4, r5]) rfl (IvRes.end6 rfl OA.out.1 OB.out.1 EW.out (by omega) (by omega) (by omega))

set_option maxRecDepth 100000 in
set_option maxHeartbeats 8000000 in
theorem ipoint_any {w : World} {n0 : Bool} {A0 A0' : Option Addr} {k0 c0 c0' : Nat} {d0 : Int} {x : DV} (hx : Dy w n0 A0 k0 c0 d0 x A0' c0') (hT : Tabs w) :
    Calls Tryz.prog 43 #[dv n0 A0 k0 c0 d0] w (IvRes x x w) := by
  have HX := Lib.hid hx; have HT := Lib.hid hT; clear hx hT
  have B0 := Lib.hid ((Bx.new w (.bool n0) (.slice A0 k0 c0) (I d0) 25).ext (Ext.alloc _ (.cells #[.bool false, .slice none 0 0, I 0, .bool false, .slice none 0 0, I 0] 37)))
  have B1 : Hid (B6 ((w.alloc (.cells #[.bool n0, .slice A0 k0 c0, I d0] 25)).alloc (.cells #[.bool false, .slice none 0 0, I 0, .bool false, .slice none 0 0, I 0] 37)) (w.heap.size + 1) (.bool false) (.slice none 0 0) (I 0) (.bool false) (.slice none 0 0) (I 0)) := by
    have s := B6.new (w.alloc (.cells #[.bool n0, .slice A0 k0 c0, I d0] 25)) (.bool false) (.slice none 0 0) (I 0) (.bool false) (.slice none 0 0) (I 0) 37
    rw [show (w.alloc (.cells #[.bool n0, .slice A0 k0 c0, I d0] 25)).heap.size = w.heap.size + 1 by simp] at s
    exact s
  have E1 : Hid (Ext w ((w.alloc (.cells #[.bool n0, .slice A0 k0 c0, I d0] 25)).alloc (.cells #[.bool false, .slice none 0 0, I 0, .bool false, .slice none 0 0, I 0] 37))) := (Ext.alloc _ _).trans (Ext.alloc _ _)
  obtain ⟨⟨j0, j1, j2⟩, jz⟩ := B0.out
  go_enter Tryz.func43, Tryz.ntmps43
  go_wp2_with (go_at_call 77; (with_reducible refine (least_one (HX.out.ext E1.out) (HT.out.ext E1.out)).mono ?_); rintro e1 w1 ⟨A1, c1, C1, e1', rfl, hfa, hfb, hx⟩; obtain ⟨⟨r0, r1, r2, r3, r4, r5⟩, rz⟩ := B1.out.ext hx; have E2 := Lib.hid (E1.out.trans hx); have FA := Lib.hid hfa; have FB := Lib.hid hfb; clear hx hfa hfb)
  have hsz : ((w.alloc (.cells #[.bool n0, .slice A0 k0 c0, I d0] 25)).alloc (.cells #[.bool false, .slice none 0 0, I 0, .bool false, .slice none 0 0, I 0] 37)).heap.size = w.heap.size + 1 + 1 := by simp
  exact bodyPost_ret (v := ivd x A1 c1 x C1 e1') (by simp [results, Tryz.results43, go_sem, r0, r1, r2, r3, r4, r5]) rfl (IvRes.end6 rfl FA.out FB.out E2.out (by omega) (by omega) (by omega))
end

end Go.Proofs.YtlnphamgmicniaaGreatDoor

import Derived.Test.YtgnngldlgcdnfaaGreatDoorQat
import Derived.Deep.RegionHeld3
import Derived.Deep.DeepCutAuto
namespace Go.Proofs.YtgnngldlgcdnfaaGreatDoor
open Go.RowKit
attribute [local go_sem ↓] Go.wp_at_zero Go.wp_at_succ
def MulI (w : World) (n1 : Bool) (A : Option Addr) (k c : Nat) (d1 : Int) (n2 : Bool) (B : Option Addr) (m e : Nat) (d2 : Int) (x y : DV) (X : Option Addr) (q : Nat) (Y : Option Addr) (s : Nat) (wx : World) : Prop :=
 Ext w wx ∧ B6 wx w.heap.size (.bool n1) (.slice A k c) (I d1) (.bool n2) (.slice B m e) (I d2) ∧ BI wx (w.heap.size + 1) x X q y Y s ∧ BZ wx (w.heap.size + 1 + 1)
theorem mulI_of {w W0 W : World} {x y : DV} {A B X Y : Option Addr} {k c m e q s : Nat} {n1 n2 : Bool} {d1 d2 : Int} {v0 v1 v2 v3 v4 v5 : Value} (h0 : B6 W0 w.heap.size (.bool n1) (.slice A k c) (I d1) (.bool n2) (.slice B m e) (I d2)) (h1 : B6 W0 (w.heap.size + 1) v0 v1 v2 v3 v4 v5) (hz : BZ W0 (w.heap.size + 1 + 1)) (hw : Ext w W0) (hx : Ext W0 W) :
  MulI w n1 A k c d1 n2 B m e d2 x y X q Y s ((((((W.setCell ⟨w.heap.size + 1, 0, none⟩ (.bool x.neg)).setCell ⟨w.heap.size + 1, 1, none⟩ (.slice X (len x.m) q)).setCell ⟨w.heap.size + 1, 2, none⟩ (I x.den)).setCell ⟨w.heap.size + 1, 3, none⟩ (.bool y.neg)).setCell ⟨w.heap.size + 1, 4, none⟩ (.slice Y (len y.m) s)).setCell ⟨w.heap.size + 1, 5, none⟩ (I y.den)) :=
 ⟨ext_set6 (hw.trans hx) (by omega) _ _ _ _ _ _, (h0.ext hx).far6 (by omega) _ _ _ _ _ _, (h1.ext hx).set6 _ _ _ _ _ _, (hz.ext hx).far6 (by omega) _ _ _ _ _ _⟩
set_option maxRecDepth 100000 in
set_option maxHeartbeats 1000000 in
theorem imul_any {w : World} {n1 n2 : Bool} {A B A' B' : Option Addr} {k c m e c' e' : Nat} {d1 d2 : Int} {a b : DV} {n3 n4 : Bool} {X Y X' Y' : Option Addr} {p q r s q' s' : Nat} {d3 d4 : Int} {x y : DV} (ha : Iw w n1 A k c d1 n2 B m e d2 a b A' c' B' e') (hb : Iw w n3 X p q d3 n4 Y r s d4 x y X' q' Y' s') (hT : Tabs w) (l1 : len a.m + len x.m ≤ 1048576) (l2 : len b.m + len x.m ≤ 1048576) (l3 : len a.m + len y.m ≤ 1048576) (l4 : len b.m + len y.m ≤ 1048576) :
  Calls Tryz.prog 173 #[iv n1 A k c d1 n2 B m e d2, iv n3 X p q d3 n4 Y r s d4] w (IvRes (lo4 (lo2 (mulD a x) (mulD b x)) (hi2 (mulD a x) (mulD b x)) (lo2 (mulD a y) (mulD b y)) (hi2 (mulD a y) (mulD b y))) (hi4 (lo2 (mulD a x) (mulD b x)) (hi2 (mulD a x) (mulD b x)) (lo2 (mulD a y) (mulD b y)) (hi2 (mulD a y) (mulD b y))) w) := by
 obtain ⟨p1, hp1⟩ : ∃ u, lo2 (mulD a x) (mulD b x) = u := ⟨_, rfl⟩
 obtain ⟨p2, hp2⟩ : ∃ u, hi2 (mulD a x) (mulD b x) = u := ⟨_, rfl⟩
 obtain ⟨p3, hp3⟩ : ∃ u, lo2 (mulD a y) (mulD b y) = u := ⟨_, rfl⟩
 obtain ⟨p4, hp4⟩ : ∃ u, hi2 (mulD a y) (mulD b y) = u := ⟨_, rfl⟩
 have mx (u v : DV) (h : len u.m + len v.m ≤ 1048576) : End (mulD u v) := ⟨mulD_ok _ _, by have := lim_mul u v; omega⟩
 have Wp1 : Hid (End p1) := by show End _; rw [← hp1]; exact sz_min (P := End) (mx _ _ l1) (mx _ _ l2)
 have Wp2 : Hid (End p2) := by show End _; rw [← hp2]; exact sz_max (P := End) (mx _ _ l1) (mx _ _ l2)
 have Wp3 : Hid (End p3) := by show End _; rw [← hp3]; exact sz_min (P := End) (mx _ _ l3) (mx _ _ l4)
 have Wp4 : Hid (End p4) := by show End _; rw [← hp4]; exact sz_max (P := End) (mx _ _ l3) (mx _ _ l4)
 have Q1 : Hid (p1.q ≤ p2.q) := by show _ ≤ _; rw [← hp1, ← hp2]; exact lo2_le (mulD_ok _ _) (mulD_ok _ _)
 have Q2 : Hid (p3.q ≤ p4.q) := by show _ ≤ _; rw [← hp3, ← hp4]; exact lo2_le (mulD_ok _ _) (mulD_ok _ _)
 rw [hp1, hp2, hp3, hp4]
 have lx : Hid (len x.m ≤ 1048576) := hb.wa.2; have ly : Hid (len y.m ≤ 1048576) := hb.wb.2
 obtain ⟨L, hL⟩ : ∃ L, lo4 p1 p2 p3 p4 = L := ⟨_, rfl⟩
 obtain ⟨H, hH⟩ : ∃ H, hi4 p1 p2 p3 p4 = H := ⟨_, rfl⟩
 rw [hL, hH]
 have EL := Lib.hid hL; have EH := Lib.hid hH; have E1 := Lib.hid hp1; have E2 := Lib.hid hp2; have E3 := Lib.hid hp3; have E4 := Lib.hid hp4; clear hL hH hp1 hp2 hp3 hp4 mx l1 l2 l3 l4
 have HA := Lib.hid ha; have HB := Lib.hid hb; have HT := Lib.hid hT; clear ha hb hT
 obtain ⟨X0, X1, XZ, XE⟩ := boxes3 w n1 n2 A B k c m e d1 d2 n3 n4 X Y p q r s d3 d4
 have HX0 := Lib.hid X0; have HX1 := Lib.hid X1; have HXZ := Lib.hid XZ; have HXE := Lib.hid XE
 clear X0 X1 XZ XE
 go_enter Tryz.func173, Tryz.ntmps173
 go_upto_region 1 with fail
 go_cut [] (fun wx => MulI w n1 A k c d1 n2 B m e d2 x y X' q' Y' s' wx)
 case first =>
  obtain ⟨⟨k0, k1, k2, k3, k4, k5⟩, kz⟩ := HX1.out
  go_wp2_with (go_at_call 87; (with_reducible refine (HB.out.itv _ HXE.out).mono ?_); rintro e1 w1 ⟨rfl, hx⟩; clear k0 k1 k2 k3 k4 k5 kz; obtain ⟨⟨k0, k1, k2, k3, k4, k5⟩, kz⟩ := HX1.out.ext hx; have HX := Lib.hid hx; clear hx)
  go_meet
  exact mulI_of HX0.out HX1.out HXZ.out HXE.out HX.out
 case rest =>
  clear HX0 HX1 HXZ HXE
  obtain ⟨hE, hX0, hX1, hXZ⟩ := hcut
  have HE := Lib.hid hE; have HX0 := Lib.hid hX0; have HX1 := Lib.hid hX1; have HXZ := Lib.hid hXZ
  clear hE hX0 hX1 hXZ
  have HS : Hid (∀ w', Ext wc w' → w'.cell? ⟨w.heap.size, 0, none⟩ = some (.bool n1) ∧ w'.cell? ⟨w.heap.size, 1, none⟩ = some (.slice A k c) ∧ w'.cell? ⟨w.heap.size, 2, none⟩ = some (I d1) ∧ w'.cell? ⟨w.heap.size, 3, none⟩ = some (.bool n2) ∧ w'.cell? ⟨w.heap.size, 4, none⟩ = some (.slice B m e) ∧ w'.cell? ⟨w.heap.size, 5, none⟩ = some (I d2) ∧ w'.cell? ⟨w.heap.size + 1, 0, none⟩ = some (.bool x.neg) ∧ w'.cell? ⟨w.heap.size + 1, 1, none⟩ = some (.slice X' (len x.m) q') ∧ w'.cell? ⟨w.heap.size + 1, 2, none⟩ = some (I x.den) ∧ w'.cell? ⟨w.heap.size + 1, 3, none⟩ = some (.bool y.neg) ∧ w'.cell? ⟨w.heap.size + 1, 4, none⟩ = some (.slice Y' (len y.m) s') ∧ w'.cell? ⟨w.heap.size + 1, 5, none⟩ = some (I y.den)) := fun w' e => by
   obtain ⟨⟨i0, i1, i2, i3, i4, i5⟩, iz⟩ := HX0.out.ext e
   obtain ⟨⟨j0, j1, j2, j3, j4, j5⟩, jz⟩ := HX1.out.ext e
   exact ⟨i0, i1, i2, i3, i4, i5, j0, j1, j2, j3, j4, j5⟩
  have HS2 : Hid (∀ w1 u0 u1 u2 u3 u4 u5, Ext wc w1 → ((((((w1.setCell ⟨w.heap.size + 1 + 1, 0, none⟩ u0).setCell ⟨w.heap.size + 1 + 1, 1, none⟩ u1).setCell ⟨w.heap.size + 1 + 1, 2, none⟩ u2).setCell ⟨w.heap.size + 1 + 1, 3, none⟩ u3).setCell ⟨w.heap.size + 1 + 1, 4, none⟩ u4).setCell ⟨w.heap.size + 1 + 1, 5, none⟩ u5).cell? ⟨w.heap.size, 0, none⟩ = some (.bool n1) ∧ ((((((w1.setCell ⟨w.heap.size + 1 + 1, 0, none⟩ u0).setCell ⟨w.heap.size + 1 + 1, 1, none⟩ u1).setCell ⟨w.heap.size + 1 + 1, 2, none⟩ u2).setCell ⟨w.heap.size + 1 + 1, 3, none⟩ u3).setCell ⟨w.heap.size + 1 + 1, 4, none⟩ u4).setCell ⟨w.heap.size + 1 + 1, 5, none⟩ u5).cell? ⟨w.heap.size, 1, none⟩ = some (.slice A k c) ∧ ((((((w1.setCell ⟨w.heap.size + 1 + 1, 0, none⟩ u0).setCell ⟨w.heap.size + 1 + 1, 1, none⟩ u1).setCell ⟨w.heap.size + 1 + 1, 2, none⟩ u2).setCell ⟨w.heap.size + 1 + 1, 3, none⟩ u3).setCell ⟨w.heap.size + 1 + 1, 4, none⟩ u4).setCell ⟨w.heap.size + 1 + 1, 5, none⟩ u5).cell? ⟨w.heap.size, 2, none⟩ = some (I d1) ∧ ((((((w1.setCell ⟨w.heap.size + 1 + 1, 0, none⟩ u0).setCell ⟨w.heap.size + 1 + 1, 1, none⟩ u1).setCell ⟨w.heap.size + 1 + 1, 2, none⟩ u2).setCell ⟨w.heap.size + 1 + 1, 3, none⟩ u3).setCell ⟨w.heap.size + 1 + 1, 4, none⟩ u4).setCell ⟨w.heap.size + 1 + 1, 5, none⟩ u5).cell? ⟨w.heap.size, 3, none⟩ = some (.bool n2) ∧ ((((((w1.setCell ⟨w.heap.size + 1 + 1, 0, none⟩ u0).setCell ⟨w.heap.size + 1 + 1, 1, none⟩ u1).setCell ⟨w.heap.size + 1 + 1, 2, none⟩ u2).setCell ⟨w.heap.size + 1 + 1, 3, none⟩ u3).setCell ⟨w.heap.size + 1 + 1, 4, none⟩ u4).setCell ⟨w.heap.size + 1 + 1, 5, none⟩ u5).cell? ⟨w.heap.size, 4, none⟩ = some (.slice B m e) ∧ ((((((w1.setCell ⟨w.heap.size + 1 + 1, 0, none⟩ u0).setCell ⟨w.heap.size + 1 + 1, 1, none⟩ u1).setCell ⟨w.heap.size + 1 + 1, 2, none⟩ u2).setCell ⟨w.heap.size + 1 + 1, 3, none⟩ u3).setCell ⟨w.heap.size + 1 + 1, 4, none⟩ u4).setCell ⟨w.heap.size + 1 + 1, 5, none⟩ u5).cell? ⟨w.heap.size, 5, none⟩ = some (I d2) ∧ ((((((w1.setCell ⟨w.heap.size + 1 + 1, 0, none⟩ u0).setCell ⟨w.heap.size + 1 + 1, 1, none⟩ u1).setCell ⟨w.heap.size + 1 + 1, 2, none⟩ u2).setCell ⟨w.heap.size + 1 + 1, 3, none⟩ u3).setCell ⟨w.heap.size + 1 + 1, 4, none⟩ u4).setCell ⟨w.heap.size + 1 + 1, 5, none⟩ u5).cell? ⟨w.heap.size + 1, 0, none⟩ = some (.bool x.neg) ∧ ((((((w1.setCell ⟨w.heap.size + 1 + 1, 0, none⟩ u0).setCell ⟨w.heap.size + 1 + 1, 1, none⟩ u1).setCell ⟨w.heap.size + 1 + 1, 2, none⟩ u2).setCell ⟨w.heap.size + 1 + 1, 3, none⟩ u3).setCell ⟨w.heap.size + 1 + 1, 4, none⟩ u4).setCell ⟨w.heap.size + 1 + 1, 5, none⟩ u5).cell? ⟨w.heap.size + 1, 1, none⟩ = some (.slice X' (len x.m) q') ∧ ((((((w1.setCell ⟨w.heap.size + 1 + 1, 0, none⟩ u0).setCell ⟨w.heap.size + 1 + 1, 1, none⟩ u1).setCell ⟨w.heap.size + 1 + 1, 2, none⟩ u2).setCell ⟨w.heap.size + 1 + 1, 3, none⟩ u3).setCell ⟨w.heap.size + 1 + 1, 4, none⟩ u4).setCell ⟨w.heap.size + 1 + 1, 5, none⟩ u5).cell? ⟨w.heap.size + 1, 2, none⟩ = some (I x.den) ∧ ((((((w1.setCell ⟨w.heap.size + 1 + 1, 0, none⟩ u0).setCell ⟨w.heap.size + 1 + 1, 1, none⟩ u1).setCell ⟨w.heap.size + 1 + 1, 2, none⟩ u2).setCell ⟨w.heap.size + 1 + 1, 3, none⟩ u3).setCell ⟨w.heap.size + 1 + 1, 4, none⟩ u4).setCell ⟨w.heap.size + 1 + 1, 5, none⟩ u5).cell? ⟨w.heap.size + 1, 3, none⟩ = some (.bool y.neg) ∧ ((((((w1.setCell ⟨w.heap.size + 1 + 1, 0, none⟩ u0).setCell ⟨w.heap.size + 1 + 1, 1, none⟩ u1).setCell ⟨w.heap.size + 1 + 1, 2, none⟩ u2).setCell ⟨w.heap.size + 1 + 1, 3, none⟩ u3).setCell ⟨w.heap.size + 1 + 1, 4, none⟩ u4).setCell ⟨w.heap.size + 1 + 1, 5, none⟩ u5).cell? ⟨w.heap.size + 1, 4, none⟩ = some (.slice Y' (len y.m) s') ∧ ((((((w1.setCell ⟨w.heap.size + 1 + 1, 0, none⟩ u0).setCell ⟨w.heap.size + 1 + 1, 1, none⟩ u1).setCell ⟨w.heap.size + 1 + 1, 2, none⟩ u2).setCell ⟨w.heap.size + 1 + 1, 3, none⟩ u3).setCell ⟨w.heap.size + 1 + 1, 4, none⟩ u4).setCell ⟨w.heap.size + 1 + 1, 5, none⟩ u5).cell? ⟨w.heap.size + 1, 5, none⟩ = some (I y.den)) := fun w1 u0 u1 u2 u3 u4 u5 e => by
   obtain ⟨⟨i0, i1, i2, i3, i4, i5⟩, iz⟩ := (HX0.out.ext e).far6 (g' := w.heap.size + 1 + 1) (by omega) u0 u1 u2 u3 u4 u5
   obtain ⟨⟨j0, j1, j2, j3, j4, j5⟩, jz⟩ := (HX1.out.ext e).far6 (g' := w.heap.size + 1 + 1) (by omega) u0 u1 u2 u3 u4 u5
   exact ⟨i0, i1, i2, i3, i4, i5, j0, j1, j2, j3, j4, j5⟩
  have hlx := HXZ.out.lt; have hnx := Nat.ne_of_lt hlx; have hq1 : ¬ w.heap.size + 1 + 1 = w.heap.size := (by omega); have hq2 : ¬ w.heap.size = w.heap.size + 1 + 1 := (by omega)
  go_wp2_with fail
  go_region_held3 (fun w' => w'.cell? ⟨w.heap.size, 0, none⟩ = some (.bool n1) ∧ w'.cell? ⟨w.heap.size, 1, none⟩ = some (.slice A k c) ∧ w'.cell? ⟨w.heap.size, 2, none⟩ = some (I d1) ∧ w'.cell? ⟨w.heap.size, 3, none⟩ = some (.bool n2) ∧ w'.cell? ⟨w.heap.size, 4, none⟩ = some (.slice B m e) ∧ w'.cell? ⟨w.heap.size, 5, none⟩ = some (I d2) ∧ w'.cell? ⟨w.heap.size + 1, 0, none⟩ = some (.bool x.neg) ∧ w'.cell? ⟨w.heap.size + 1, 1, none⟩ = some (.slice X' (len x.m) q') ∧ w'.cell? ⟨w.heap.size + 1, 2, none⟩ = some (I x.den) ∧ w'.cell? ⟨w.heap.size + 1, 3, none⟩ = some (.bool y.neg) ∧ w'.cell? ⟨w.heap.size + 1, 4, none⟩ = some (.slice Y' (len y.m) s') ∧ w'.cell? ⟨w.heap.size + 1, 5, none⟩ = some (I y.den)) (first | with_reducible assumption | exact HS.out _ ex2 | exact HS2.out _ _ _ _ _ _ _ ex2)
   (first
    | (have hg := hx2; clear hg; go_at_call 140; (with_reducible refine (hull_any (D1.out.ext ex2) (D2.out.ext ex2) (HT.out.ext (HE.out.trans ex2))).mono ?_); rw [EL.out, EH.out]; rintro e1 w3 ⟨A3, c3, B3, k3, rfl, hfa, hfb, hx3⟩; have FA := Lib.hid hfa; have FB := Lib.hid hfb; clear hfa hfb; obtain ⟨⟨r0, r1, r2, r3, r4, r5⟩, rz⟩ := HXZ.out.ext (w' := w3) ex2)
    | (have hg := hx1; clear hg; go_at_call 167; (with_reducible refine (scale_any (HA.out.ext (HE.out.trans ex2)) (HB.out.dyb.ext (HE.out.trans ex2)) (HT.out.ext (HE.out.trans ex2)) ly.out).mono ?_); rw [E3.out, E4.out]; rintro e1 w2 ⟨A2, c2, B2, k2, rfl, hfa, hfb, hx2⟩; have D2 := Lib.hid (IvRes.at_ hfa hfb Wp3.out Wp4.out Q2.out (Ext.refl _)); clear hfa hfb)
    | (go_at_call 167; (with_reducible refine (scale_any (HA.out.ext (HE.out.trans ex2)) (HB.out.dya.ext (HE.out.trans ex2)) (HT.out.ext (HE.out.trans ex2)) lx.out).mono ?_); rw [E1.out, E2.out]; rintro e1 w1 ⟨A1, c1, B1, k1, rfl, hfa, hfb, hx1⟩; have D1 := Lib.hid (IvRes.at_ hfa hfb Wp1.out Wp2.out Q1.out (Ext.refl _)); clear hfa hfb))
  all_goals
   have HF := Lib.hid (HE.out.trans (show Ext wc w3 from ex2))
   have hz2 := Ext.size (show Ext wc w2 from ex2)
   go_wp2_with fail
   exact bodyPost_ret (v := ivd L A3 c3 H B3 k3) (by simp [results, Tryz.results173, go_sem, r0, r1, r2, r3, r4, r5]) rfl (IvRes.end6 rfl FA.out FB.out HF.out (by omega) (by (try simp); omega) (by (try simp); omega))
end Go.Proofs.YtgnngldlgcdnfaaGreatDoor

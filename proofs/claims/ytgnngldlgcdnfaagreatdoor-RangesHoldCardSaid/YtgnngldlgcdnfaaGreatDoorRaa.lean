import Derived.Test.YtgnngldlgcdnfaaGreatDoorQax
import Derived.Test.YtgnngldlgcdnfaaGreatDoorQae
import Derived.Deep.DeepCutAuto
import Derived.Deep.DrawnRows
import Derived.Test.YtgnngldlgcdnfaaGreatDoorQay
import Derived.Test.YtgnngldlgcdnfaaGreatDoorQas
import Derived.Deep.RegionHeld3
import Derived.Test.YtgnngldlgcdnfaaGreatDoorQav
import Derived.Test.YtgnngldlgcdnfaaGreatDoorQaj
import Derived.Test.YtgnngldlgcdnfaaGreatDoorQal
import Derived.Test.YtgnngldlgcdnfaaGreatDoorQak
namespace Go.Proofs.YtgnngldlgcdnfaaGreatDoor
section
section
open Go.RowKit
end
section
section
open Go.RowKit
attribute [local go_sem ↓] Go.wp_at_zero Go.wp_at_succ
end
section
open Go.RowKit
attribute [local go_sem ↓] Go.wp_at_zero Go.wp_at_succ
set_option maxRecDepth 100000 in
set_option maxHeartbeats 1000000 in
theorem riints_any {w : World} (p q : Int) (p1 : -9223372036854775808 ≤ p) (p2 : p ≤ 9223372036854775807) (q1 : -9223372036854775808 ≤ q) (q2 : q ≤ 9223372036854775807) :
  Calls Tryz.prog 53 #[I p, I q] w (IvRes (lo2 (ofI p 0) (ofI q 0)) (hi2 (ofI p 0) (ofI q 0)) w) := by
 obtain ⟨u, hu⟩ : ∃ u, ofI p 0 = u := ⟨_, rfl⟩
 obtain ⟨v, hv⟩ : ∃ v, ofI q 0 = v := ⟨_, rfl⟩
 have Wu : Hid (Bdd u) := hu ▸ bd_of p p1 p2
 have Wv : Hid (Bdd v) := hv ▸ bd_of q q1 q2
 rw [hu, hv]
 have Eu := Lib.hid hu; have Ev := Lib.hid hv; have P1 := Lib.hid p1; have P2 := Lib.hid p2; have Q1 := Lib.hid q1; have Q2 := Lib.hid q2; clear hu hv p1 p2 q1 q2
 have HXZ := Lib.hid (B6.new w (.bool false) (.slice none 0 0) (I 0) (.bool false) (.slice none 0 0) (I 0) 58)
 have HE := Lib.hid (Ext.alloc w (.cells #[.bool false, .slice none 0 0, I 0, .bool false, .slice none 0 0, I 0] 58))
 generalize hWc : w.alloc (.cells #[.bool false, .slice none 0 0, I 0, .bool false, .slice none 0 0, I 0] 58) = W9 at HXZ HE
 go_enter Tryz.func53, Tryz.ntmps53
 go_upto_region 1 with fail
 (try rw [hWc])
 clear hWc
 have hlx := HXZ.out.lt; have hnx := Nat.ne_of_lt hlx
 go_wp2_with (first
  | (have hg := hx2; clear hg; go_at_call 92; (with_reducible refine (span2 (D1.out.ext ex2) (D2.out.ext ex2) Wu.out Wv.out (S6.new _ _ _ _ _ _ _ _)).mono ?_); rintro e1 w3 ⟨A3, c3, B3, k3, rfl, hfa, hfb, hx3⟩; have FA := Lib.hid hfa; have FB := Lib.hid hfb; clear hfa hfb; obtain ⟨⟨r0, r1, r2, r3, r4, r5⟩, rz⟩ := HXZ.out.ext (w' := w3) ex2)
  | (have hg := hx1; clear hg; go_at_call 27; (with_reducible refine (rof_any q _ Q1.out Q2.out).mono ?_); rw [Ev.out]; rintro e1 w2 ⟨A2, c2, rfl, hon, hx2⟩; have D2 := Lib.hid (Dy.of_on hon Wv.out.1 Wv.out.lim (Ext.refl _)); clear hon)
  | (go_at_call 27; (with_reducible refine (rof_any p _ P1.out P2.out).mono ?_); rw [Eu.out]; rintro e1 w1 ⟨A1, c1, rfl, hon, hx1⟩; have D1 := Lib.hid (Dy.of_on hon Wu.out.1 Wu.out.lim (Ext.refl _)); clear hon))
 have HF := Lib.hid (HE.out.trans (show Ext W9 w3 from ex2))
 have hz2 := Ext.size (show Ext W9 w2 from ex2)
 exact bodyPost_ret (v := ivd (lo2 u v) A3 c3 (hi2 u v) B3 k3) (by simp [results, Tryz.results53, go_sem, r0, r1, r2, r3, r4, r5]) rfl (IvRes.end6 rfl FA.out FB.out HF.out (by omega) (by (try simp); omega) (by (try simp); omega))
end
section
open Go.RowKit
attribute [local go_sem ↓] Go.wp_at_zero Go.wp_at_succ
end
section
open Go.RowKit
set_option maxRecDepth 100000 in
set_option maxHeartbeats 60000000 in
theorem least_one {w : World} {n0 : Bool} {A0 A0' : Option Addr} {k0 c0 c0' : Nat} {d0 : Int} {x : DV} (hx0 : Dy w n0 A0 k0 c0 d0 x A0' c0') (hT : Tabs w) :
  Calls Tryz.prog 182 #[dv n0 A0 k0 c0 d0, .slice none 0 0] w (IvRes x x w) := by
 have HX := Lib.hid hx0; have HT := Lib.hid hT; clear hx0 hT
 have H0 : Hid (minD x x = x ∧ maxD x x = x) := ⟨minD_self x, maxD_self x⟩
 have B0 := Lib.hid ((Bx.new w (.bool n0) (.slice A0 k0 c0) (I d0) 56).ext (Ext.alloc _ (.cells #[.bool false, .slice none 0 0, I 0, .bool false, .slice none 0 0, I 0] 58)))
 have B1 : Hid (B6 ((w.alloc (.cells #[.bool n0, .slice A0 k0 c0, I d0] 56)).alloc (.cells #[.bool false, .slice none 0 0, I 0, .bool false, .slice none 0 0, I 0] 58)) (w.heap.size + 1) (.bool false) (.slice none 0 0) (I 0) (.bool false) (.slice none 0 0) (I 0)) := by
  have s := B6.new (w.alloc (.cells #[.bool n0, .slice A0 k0 c0, I d0] 56)) (.bool false) (.slice none 0 0) (I 0) (.bool false) (.slice none 0 0) (I 0) 58
  rw [show (w.alloc (.cells #[.bool n0, .slice A0 k0 c0, I d0] 56)).heap.size = w.heap.size + 1 by simp] at s
  exact s
 have E1 : Hid (Ext w ((w.alloc (.cells #[.bool n0, .slice A0 k0 c0, I d0] 56)).alloc (.cells #[.bool false, .slice none 0 0, I 0, .bool false, .slice none 0 0, I 0] 58))) := (Ext.alloc _ _).trans (Ext.alloc _ _)
 go_enter Tryz.func182, Tryz.ntmps182
 go_upto_region 1 with fail
 go_cut [5, 6] (fun s5 s6 wx => ∃ p q, s5 = .pointer (some ⟨p, 0, none⟩) ∧ s6 = .pointer (some ⟨q, 0, none⟩) ∧ Hid (Lst w wx p q x x))
 case first =>
  have hsz : ((w.alloc (.cells #[.bool n0, .slice A0 k0 c0, I d0] 56)).alloc (.cells #[.bool false, .slice none 0 0, I 0, .bool false, .slice none 0 0, I 0] 58)).heap.size = w.heap.size + 1 + 1 := by simp
  have HS3 : Hid (∀ w', Ext ((w.alloc (.cells #[.bool n0, .slice A0 k0 c0, I d0] 56)).alloc (.cells #[.bool false, .slice none 0 0, I 0, .bool false, .slice none 0 0, I 0] 58)) w' → w'.cell? ⟨w.heap.size, 0, none⟩ = some (.bool n0) ∧ w'.cell? ⟨w.heap.size, 1, none⟩ = some (.slice A0 k0 c0) ∧ w'.cell? ⟨w.heap.size, 2, none⟩ = some (I d0)) := fun w' e => by
   obtain ⟨p0, q0, r0⟩ := (B0.out.ext e).1
   exact ⟨p0, q0, r0⟩
  have B1' := B1
  generalize hW : (w.alloc (.cells #[.bool n0, .slice A0 k0 c0, I d0] 56)).alloc (.cells #[.bool false, .slice none 0 0, I 0, .bool false, .slice none 0 0, I 0] 58) = W0 at *
  clear hW
  have HSZ := Lib.hid hsz
  clear hsz
  go_region_held3 (fun w' => w'.cell? ⟨w.heap.size, 0, none⟩ = some (.bool n0) ∧ w'.cell? ⟨w.heap.size, 1, none⟩ = some (.slice A0 k0 c0) ∧ w'.cell? ⟨w.heap.size, 2, none⟩ = some (I d0)) (first | with_reducible assumption | exact HS3.out _ ex2)
   (first
    | (have hg := hx1; clear hg; go_at_call 183; (with_reducible refine (max_any (HX.out.ext (E1.out.trans ex2)) (HX.out.ext (E1.out.trans ex2)) (HT.out.ext (E1.out.trans ex2))).mono ?_); rw [H0.out.2]; rintro e w2 ⟨A2, c2, rfl, hon2, hx2⟩; have O2 := Lib.hid hon2; clear hon2; have g2 := Ext.size hx2; (try simp only [World.size_alloc] at g2); (first
     | (have V1 := Lib.hid (U1.out.ext hx2); have V2 := Lib.hid (U2.out.ext hx2); obtain ⟨⟨v10, v11, v12⟩, v13⟩ := V1.out; obtain ⟨⟨v20, v21, v22⟩, v23⟩ := V2.out; have l1 := V1.out.lt; have m1 := Nat.ne_of_lt l1; have n1 := Nat.ne_of_gt l1; have l2 := V2.out.lt; have m2 := Nat.ne_of_lt l2; have n2 := Nat.ne_of_gt l2)
     | ((with_reducible have u2 := one_new hx2); have V2 := Lib.hid u2; have V1 := Lib.hid (U1.out.ext ((Ext.alloc _ _).trans hx2)); clear u2; obtain ⟨⟨v10, v11, v12⟩, v13⟩ := V1.out; obtain ⟨⟨v20, v21, v22⟩, v23⟩ := V2.out; have l1 := V1.out.lt; have m1 := Nat.ne_of_lt l1; have n1 := Nat.ne_of_gt l1; have l2 := V2.out.lt; have m2 := Nat.ne_of_lt l2; have n2 := Nat.ne_of_gt l2)
     | (have V1 := Lib.hid (U1.out.ext hx2); obtain ⟨⟨v10, v11, v12⟩, v13⟩ := V1.out; have l1 := V1.out.lt; have m1 := Nat.ne_of_lt l1; have n1 := Nat.ne_of_gt l1)
     | ((with_reducible have uu := two_new hx2); obtain ⟨u1, u2⟩ := uu; have V1 := Lib.hid u1; have V2 := Lib.hid u2; clear u1 u2; obtain ⟨⟨v10, v11, v12⟩, v13⟩ := V1.out; obtain ⟨⟨v20, v21, v22⟩, v23⟩ := V2.out; have l1 := V1.out.lt; have m1 := Nat.ne_of_lt l1; have n1 := Nat.ne_of_gt l1; have l2 := V2.out.lt; have m2 := Nat.ne_of_lt l2; have n2 := Nat.ne_of_gt l2)
     | ((with_reducible have u1 := one_new hx2); have V1 := Lib.hid u1; clear u1; obtain ⟨⟨v10, v11, v12⟩, v13⟩ := V1.out; have l1 := V1.out.lt; have m1 := Nat.ne_of_lt l1; have n1 := Nat.ne_of_gt l1)
     | skip))
    | (go_at_call 202; (with_reducible refine (min_any (HX.out.ext (E1.out.trans ex2)) (HX.out.ext (E1.out.trans ex2)) (HT.out.ext (E1.out.trans ex2))).mono ?_); rw [H0.out.1]; rintro e w1 ⟨A1, c1, rfl, hon1, hx1⟩; have O1 := Lib.hid hon1; clear hon1; have g1 := Ext.size hx1; (try simp only [World.size_drew, World.size_alloc] at g1); (first | ((with_reducible have uu := two_newd hx1); obtain ⟨u1, u2⟩ := uu; have U1 := Lib.hid u1; have U2 := Lib.hid u2; clear u1 u2) | ((with_reducible have u1 := one_newd hx1); have U1 := Lib.hid u1; clear u1) | skip)))
  all_goals
   go_wp2_with fail
   go_meet
   have o1 := O1.out
   have o2 := O2.out
   simp only [World.size_drew, World.size_alloc] at o1 o2
   refine ⟨_, _, rfl, rfl, A1, c1, A2, c2, E1.out.trans ex2, ⟨⟨by go_simp, by go_simp, by go_simp⟩, fun i => by go_simp⟩, ⟨⟨by go_simp, by go_simp, by go_simp⟩, fun i => by go_simp⟩, B1'.out.ext ex2, by omega, by have := HSZ.out; omega, by have := HSZ.out; omega, ?_, ?_⟩
   ·with_reducible (repeat (first | refine Off.setp ?_ _ _ | refine Off.setq ?_ _ _ | refine Off.toAlloc ?_))
    exact (On.off o1 (by have := HSZ.out; omega) (by omega) (by omega)).ext ex2
   ·with_reducible (repeat (first | refine Off.setp ?_ _ _ | refine Off.setq ?_ _ _ | refine Off.toAlloc ?_))
    exact (On.off o2 (by have := HSZ.out; omega) (by omega) (by omega)).ext ex2
 case rest =>
  obtain ⟨p, q, rfl, rfl, hl⟩ := hcut
  clear H0 B0 B1 E1
  go_wp2
  go_loopw [17] (fun s wr => s = I 0 ∧ Hid (Lst w wr p q x x)) (fun s _ => 0)
  case atStart => exact ⟨rfl, hl⟩
  case round =>
   obtain ⟨rfl, hlr⟩ := hrel
   clear hl
   obtain ⟨A, c, B, e, hx, hp, hq, hz, hne, h1, h2, oa, ob⟩ := hlr.out
   have OA := Lib.hid oa; have OB := Lib.hid ob; have EW := Lib.hid hx
   have hp0 := hp.lt; have hq0 := hq.lt
   obtain ⟨⟨a0, a1, a2⟩, a3⟩ := hp
   obtain ⟨⟨b0, b1, b2⟩, b3⟩ := hq
   obtain ⟨⟨r0, r1, r2, r3, r4, r5⟩, rz⟩ := hz
   have hpn := Nat.ne_of_lt h1; have hqn := Nat.ne_of_lt h2; have hpn' := Nat.ne_of_gt h1; have hqn' := Nat.ne_of_gt h2
   clear hlr hx hne oa ob HX HT
   go_wp2
   exact bodyPost_ret (v := ivd x A c x B e) (by simp [results, Tryz.results182, go_sem, r0, r1, r2, r3, r4, r5]) rfl (IvRes.end6 rfl OA.out.1 OB.out.1 EW.out (by omega) (by omega) (by omega))
set_option maxRecDepth 100000 in
set_option maxHeartbeats 8000000 in
theorem ipoint_any {w : World} {n0 : Bool} {A0 A0' : Option Addr} {k0 c0 c0' : Nat} {d0 : Int} {x : DV} (hx : Dy w n0 A0 k0 c0 d0 x A0' c0') (hT : Tabs w) :
  Calls Tryz.prog 135 #[dv n0 A0 k0 c0 d0] w (IvRes x x w) := by
 have HX := Lib.hid hx; have HT := Lib.hid hT; clear hx hT
 have B0 := Lib.hid ((Bx.new w (.bool n0) (.slice A0 k0 c0) (I d0) 56).ext (Ext.alloc _ (.cells #[.bool false, .slice none 0 0, I 0, .bool false, .slice none 0 0, I 0] 58)))
 have B1 : Hid (B6 ((w.alloc (.cells #[.bool n0, .slice A0 k0 c0, I d0] 56)).alloc (.cells #[.bool false, .slice none 0 0, I 0, .bool false, .slice none 0 0, I 0] 58)) (w.heap.size + 1) (.bool false) (.slice none 0 0) (I 0) (.bool false) (.slice none 0 0) (I 0)) := by
  have s := B6.new (w.alloc (.cells #[.bool n0, .slice A0 k0 c0, I d0] 56)) (.bool false) (.slice none 0 0) (I 0) (.bool false) (.slice none 0 0) (I 0) 58
  rw [show (w.alloc (.cells #[.bool n0, .slice A0 k0 c0, I d0] 56)).heap.size = w.heap.size + 1 by simp] at s
  exact s
 have E1 : Hid (Ext w ((w.alloc (.cells #[.bool n0, .slice A0 k0 c0, I d0] 56)).alloc (.cells #[.bool false, .slice none 0 0, I 0, .bool false, .slice none 0 0, I 0] 58))) := (Ext.alloc _ _).trans (Ext.alloc _ _)
 obtain ⟨⟨j0, j1, j2⟩, jz⟩ := B0.out
 go_enter Tryz.func135, Tryz.ntmps135
 go_wp2_with (go_at_call 182; (with_reducible refine (least_one (HX.out.ext E1.out) (HT.out.ext E1.out)).mono ?_); rintro e1 w1 ⟨A1, c1, C1, e1', rfl, hfa, hfb, hx⟩; obtain ⟨⟨r0, r1, r2, r3, r4, r5⟩, rz⟩ := B1.out.ext hx; have E2 := Lib.hid (E1.out.trans hx); have FA := Lib.hid hfa; have FB := Lib.hid hfb; clear hx hfa hfb)
 have hsz : ((w.alloc (.cells #[.bool n0, .slice A0 k0 c0, I d0] 56)).alloc (.cells #[.bool false, .slice none 0 0, I 0, .bool false, .slice none 0 0, I 0] 58)).heap.size = w.heap.size + 1 + 1 := by simp
 exact bodyPost_ret (v := ivd x A1 c1 x C1 e1') (by simp [results, Tryz.results135, go_sem, r0, r1, r2, r3, r4, r5]) rfl (IvRes.end6 rfl FA.out FB.out E2.out (by omega) (by omega) (by omega))
end
end
section
section
open Go.RowKit
attribute [local go_sem ↓] Go.wp_at_zero Go.wp_at_succ
end
section
open Go.RowKit
attribute [local go_sem ↓] Go.wp_at_zero Go.wp_at_succ
end
section
open Go.RowKit
attribute [local go_sem ↓] Go.wp_at_zero Go.wp_at_succ
end
section
open Go.RowKit
attribute [local go_sem ↓] Go.wp_at_zero Go.wp_at_succ
end
section
open Go.RowKit
attribute [local go_sem ↓] Go.wp_at_zero Go.wp_at_succ
set_option maxRecDepth 100000 in
set_option maxHeartbeats 1000000 in
theorem riwidth_any {w : World} {n1 n2 : Bool} {A B A' B' : Option Addr} {k c m e c' e' : Nat} {d1 d2 : Int} {a b : DV} (ha : Iw w n1 A k c d1 n2 B m e d2 a b A' c' B' e') :
  Calls Tryz.prog 26 #[iv n1 A k c d1 n2 B m e d2] w (DyRes (subD b a) w) := by
 obtain ⟨o, ho⟩ : ∃ o, subD b a = o := ⟨_, rfl⟩
 rw [ho]
 have Eo := Lib.hid ho; clear ho
 have HA := Lib.hid ha; clear ha
 obtain ⟨X0, XZ, XE⟩ := boxesD w n1 n2 A B k c m e d1 d2
 have HX0 := Lib.hid X0; have HXZ := Lib.hid XZ; have HXE := Lib.hid XE
 clear X0 XZ XE
 go_enter Tryz.func26, Tryz.ntmps26
 go_upto_region 1 with fail
 go_cut [] (fun wx => OneD w a b A' c' B' e' wx)
 case first =>
  obtain ⟨⟨k0, k1, k2, k3, k4, k5⟩, kz⟩ := HX0.out
  go_wp2_with (go_at_call 79; (with_reducible refine (HA.out.nrm _ HXE.out).mono ?_); rintro e1 w1 ⟨rfl, hx⟩; clear k0 k1 k2 k3 k4 k5 kz; obtain ⟨⟨k0, k1, k2, k3, k4, k5⟩, kz⟩ := HX0.out.ext hx; have HX := Lib.hid hx; clear hx)
  go_meet
  exact oneD_of HX0.out HXZ.out HXE.out HX.out
 case rest =>
  clear HX0 HXZ HXE
  obtain ⟨hE, hX0, hXZ⟩ := hcut
  have HE := Lib.hid hE; have HX0 := Lib.hid hX0; have HXZ := Lib.hid hXZ
  clear hE hX0 hXZ
  have HS : Hid (∀ w', Ext wc w' → w'.cell? ⟨w.heap.size, 0, none⟩ = some (.bool a.neg) ∧ w'.cell? ⟨w.heap.size, 1, none⟩ = some (.slice A' (len a.m) c') ∧ w'.cell? ⟨w.heap.size, 2, none⟩ = some (I a.den) ∧ w'.cell? ⟨w.heap.size, 3, none⟩ = some (.bool b.neg) ∧ w'.cell? ⟨w.heap.size, 4, none⟩ = some (.slice B' (len b.m) e') ∧ w'.cell? ⟨w.heap.size, 5, none⟩ = some (I b.den)) := fun w' e => by
   obtain ⟨⟨i0, i1, i2, i3, i4, i5⟩, iz⟩ := HX0.out.ext e
   exact ⟨i0, i1, i2, i3, i4, i5⟩
  have HS2 : Hid (∀ w1 u0 u1 u2, Ext wc w1 → (((w1.setCell ⟨w.heap.size + 1, 0, none⟩ u0).setCell ⟨w.heap.size + 1, 1, none⟩ u1).setCell ⟨w.heap.size + 1, 2, none⟩ u2).cell? ⟨w.heap.size, 0, none⟩ = some (.bool a.neg) ∧ (((w1.setCell ⟨w.heap.size + 1, 0, none⟩ u0).setCell ⟨w.heap.size + 1, 1, none⟩ u1).setCell ⟨w.heap.size + 1, 2, none⟩ u2).cell? ⟨w.heap.size, 1, none⟩ = some (.slice A' (len a.m) c') ∧ (((w1.setCell ⟨w.heap.size + 1, 0, none⟩ u0).setCell ⟨w.heap.size + 1, 1, none⟩ u1).setCell ⟨w.heap.size + 1, 2, none⟩ u2).cell? ⟨w.heap.size, 2, none⟩ = some (I a.den) ∧ (((w1.setCell ⟨w.heap.size + 1, 0, none⟩ u0).setCell ⟨w.heap.size + 1, 1, none⟩ u1).setCell ⟨w.heap.size + 1, 2, none⟩ u2).cell? ⟨w.heap.size, 3, none⟩ = some (.bool b.neg) ∧ (((w1.setCell ⟨w.heap.size + 1, 0, none⟩ u0).setCell ⟨w.heap.size + 1, 1, none⟩ u1).setCell ⟨w.heap.size + 1, 2, none⟩ u2).cell? ⟨w.heap.size, 4, none⟩ = some (.slice B' (len b.m) e') ∧ (((w1.setCell ⟨w.heap.size + 1, 0, none⟩ u0).setCell ⟨w.heap.size + 1, 1, none⟩ u1).setCell ⟨w.heap.size + 1, 2, none⟩ u2).cell? ⟨w.heap.size, 5, none⟩ = some (I b.den)) := fun w1 u0 u1 u2 e => by
   obtain ⟨⟨i0, i1, i2, i3, i4, i5⟩, iz⟩ := (HX0.out.ext e).far3 (g' := w.heap.size + 1) (by omega) u0 u1 u2
   exact ⟨i0, i1, i2, i3, i4, i5⟩
  have hlx := HXZ.out.lt
  clear HS HS2
  obtain ⟨⟨i0, i1, i2, i3, i4, i5⟩, iz⟩ := HX0.out
  go_wp2_with (go_at_call 80; (with_reducible refine (rsub_any (HA.out.dyb.ext (HE.out.trans ex2)) (HA.out.dya.ext (HE.out.trans ex2))).mono ?_); rw [Eo.out]; rintro e1 w1 ⟨A1, c1, rfl, hon, hx1⟩; have HO := Lib.hid hon; clear hon; obtain ⟨⟨r0, r1, r2⟩, rz⟩ := HXZ.out.ext (w' := w1) ex2)
  have HF := Lib.hid (HE.out.trans hx1)
  exact bodyPost_ret (v := dv o.neg A1 (len o.m) c1 o.den) (by simp [results, Tryz.results26, go_sem, r0, r1, r2]) rfl (DyRes.end3 rfl HO.out HF.out (by have := HE.out.size; omega) (by omega) (by omega))
end
section
open Go.RowKit
attribute [local go_sem ↓] Go.wp_at_zero Go.wp_at_succ
theorem S6.ext {w w' : World} {g : Nat} {v0 v1 v2 v3 v4 v5 : Value} (h : S6 w g v0 v1 v2 v3 v4 v5) (x : Ext w w') : S6 w' g v0 v1 v2 v3 v4 v5 := by
 obtain ⟨h0, h1, h2, h3, h4, h5⟩ := h
 have hl := World.block_lt_of_cell? w _ h0
 have o := x.old.1
 exact ⟨(o _ _ hl).trans h0, (o _ _ hl).trans h1, (o _ _ hl).trans h2, (o _ _ hl).trans h3, (o _ _ hl).trans h4, (o _ _ hl).trans h5⟩
end
end
end
section
open Go.RowKit
attribute [local go_sem ↓] Go.wp_at_zero Go.wp_at_succ
theorem lo2_id {u v : DV} (hu : u.ok) (hv : v.ok) (h : u.q ≤ v.q) : lo2 u v = u := DV.uniq (lo2_ok hu hv) hu (by show (minD u v).q = _; rw [q_min hu hv]; unfold mnQ; grind)
theorem hi2_id {u v : DV} (hu : u.ok) (hv : v.ok) (h : u.q ≤ v.q) : hi2 u v = v := DV.uniq (hi2_ok hu hv) hv (by show (maxD u v).q = _; rw [q_max hu hv]; unfold mxQ; grind)
theorem min_mono {a b x y : DV} (ha : a.ok) (hb : b.ok) (hx : x.ok) (hy : y.ok) (h : a.q ≤ b.q) (k : x.q ≤ y.q) : (minD a x).q ≤ (minD b y).q := by rw [q_min ha hx, q_min hb hy]; unfold mnQ; grind
theorem max_mono {a b x y : DV} (ha : a.ok) (hb : b.ok) (hx : x.ok) (hy : y.ok) (h : a.q ≤ b.q) (k : x.q ≤ y.q) : (maxD a x).q ≤ (maxD b y).q := by rw [q_max ha hx, q_max hb hy]; unfold mxQ; grind
def clD (a z u : DV) : DV := minD (maxD a z) u
theorem cell_far6 {w : World} {g g' i : Nat} {v : Value} (hv : w.cell? ⟨g, i, none⟩ = some v) (hne : g' ≠ g) (u0 u1 u2 u3 u4 u5 : Value) : ((((((w.setCell ⟨g', 0, none⟩ u0).setCell ⟨g', 1, none⟩ u1).setCell ⟨g', 2, none⟩ u2).setCell ⟨g', 3, none⟩ u3).setCell ⟨g', 4, none⟩ u4).setCell ⟨g', 5, none⟩ u5).cell? ⟨g, i, none⟩ = some v := by
 rw [World.cell?_setCell_other _ _ _ _ (by intro e; injection e with e; exact hne e), World.cell?_setCell_other _ _ _ _ (by intro e; injection e with e; exact hne e), World.cell?_setCell_other _ _ _ _ (by intro e; injection e with e; exact hne e), World.cell?_setCell_other _ _ _ _ (by intro e; injection e with e; exact hne e), World.cell?_setCell_other _ _ _ _ (by intro e; injection e with e; exact hne e), World.cell?_setCell_other _ _ _ _ (by intro e; injection e with e; exact hne e)]
 exact hv
theorem clip_boxes (w : World) (n1 n2 n3 n4 : Bool) (A B X Y : Option Addr) (k c m e p q r s : Nat) (d1 d2 d3 d4 : Int) :
  let W := (((w.alloc (.cells #[.bool n1, .slice A k c, I d1, .bool n2, .slice B m e, I d2] 58)).alloc (.cells #[.bool n3, .slice X p q, I d3] 56)).alloc (.cells #[.bool n4, .slice Y r s, I d4] 56)).alloc (.cells #[.bool false, .slice none 0 0, I 0, .bool false, .slice none 0 0, I 0] 58)
  B6 W w.heap.size (.bool n1) (.slice A k c) (I d1) (.bool n2) (.slice B m e) (I d2) ∧ St W (w.heap.size + 1) (.bool n3) (.slice X p q) (I d3) ∧ St W (w.heap.size + 1 + 1) (.bool n4) (.slice Y r s) (I d4) ∧ B6 W (w.heap.size + 1 + 1 + 1) (.bool false) (.slice none 0 0) (I 0) (.bool false) (.slice none 0 0) (I 0) ∧ Ext w W := by
 have s1 := (((B6.new w (.bool n1) (.slice A k c) (I d1) (.bool n2) (.slice B m e) (I d2) 58).ext (Ext.alloc _ (.cells #[.bool n3, .slice X p q, I d3] 56))).ext (Ext.alloc _ (.cells #[.bool n4, .slice Y r s, I d4] 56))).ext (Ext.alloc _ (.cells #[.bool false, .slice none 0 0, I 0, .bool false, .slice none 0 0, I 0] 58))
 have s2 := ((St.new (w.alloc (.cells #[.bool n1, .slice A k c, I d1, .bool n2, .slice B m e, I d2] 58)) (.bool n3) (.slice X p q) (I d3) 56).ext (Ext.alloc _ (.cells #[.bool n4, .slice Y r s, I d4] 56))).ext (Ext.alloc _ (.cells #[.bool false, .slice none 0 0, I 0, .bool false, .slice none 0 0, I 0] 58))
 have s3 := (St.new ((w.alloc (.cells #[.bool n1, .slice A k c, I d1, .bool n2, .slice B m e, I d2] 58)).alloc (.cells #[.bool n3, .slice X p q, I d3] 56)) (.bool n4) (.slice Y r s) (I d4) 56).ext (Ext.alloc _ (.cells #[.bool false, .slice none 0 0, I 0, .bool false, .slice none 0 0, I 0] 58))
 have s4 := B6.new (((w.alloc (.cells #[.bool n1, .slice A k c, I d1, .bool n2, .slice B m e, I d2] 58)).alloc (.cells #[.bool n3, .slice X p q, I d3] 56)).alloc (.cells #[.bool n4, .slice Y r s, I d4] 56)) (.bool false) (.slice none 0 0) (I 0) (.bool false) (.slice none 0 0) (I 0) 58
 simp only [World.size_alloc] at s2 s3 s4
 exact ⟨s1, s2, s3, s4, (((Ext.alloc _ _).trans (Ext.alloc _ _)).trans (Ext.alloc _ _)).trans (Ext.alloc _ _)⟩
set_option maxRecDepth 100000 in
set_option maxHeartbeats 4000000 in
theorem iclip_ok {w : World} {n1 n2 : Bool} {A B A' B' : Option Addr} {k c m e c' e' : Nat} {d1 d2 : Int} {a b : DV} {n3 n4 : Bool} {X Y X' Y' : Option Addr} {p q r s q' s' : Nat} {d3 d4 : Int} {z u : DV} (ha : Iw w n1 A k c d1 n2 B m e d2 a b A' c' B' e') (hz : Dy w n3 X p q d3 z X' q') (hu : Dy w n4 Y r s d4 u Y' s') (ez : End z) (eu : End u) (hT : Tabs w) (hc : ¬ 0 < cmpD z u) :
  Calls Tryz.prog 177 #[iv n1 A k c d1 n2 B m e d2, dv n3 X p q d3, dv n4 Y r s d4] w (IvOk (clD a z u) (clD b z u) w) := by
 obtain ⟨v, hv⟩ : ∃ v, cmpD z u = v := ⟨_, rfl⟩
 rw [hv] at hc
 have EV := Lib.hid hv; clear hv
 have SB := Lib.hid (bd_sub (bd_end ez) (bd_end eu))
 have m1 := maxD_ok ha.wa.1 ez.1; have m2 := maxD_ok ha.wb.1 ez.1
 have q1 := max_mono ha.wa.1 ha.wb.1 ez.1 ez.1 ha.le (by grind : z.q ≤ z.q)
 have E1 := sz_max (P := End) ha.wa ez; have E2 := sz_max (P := End) ha.wb ez
 have C1 : Hid (lo2 (maxD a z) (maxD b z) = maxD a z ∧ hi2 (maxD a z) (maxD b z) = maxD b z) := ⟨lo2_id m1 m2 q1, hi2_id m1 m2 q1⟩
 have n1' := minD_ok m1 eu.1; have n2' := minD_ok m2 eu.1
 have q2 := min_mono m1 m2 eu.1 eu.1 q1 (by grind : u.q ≤ u.q)
 have C2 : Hid (lo2 (minD (maxD a z) u) (minD (maxD b z) u) = clD a z u ∧ hi2 (minD (maxD a z) u) (minD (maxD b z) u) = clD b z u) := ⟨lo2_id n1' n2' q2, hi2_id n1' n2' q2⟩
 have I1 : Hid (∀ w' A c B e, Fr w' 0 A (len (maxD a z).m) c (dg (maxD a z).m) → Fr w' 0 B (len (maxD b z).m) e (dg (maxD b z).m) → Iw w' (maxD a z).neg A (len (maxD a z).m) c (maxD a z).den (maxD b z).neg B (len (maxD b z).m) e (maxD b z).den (maxD a z) (maxD b z) A c B e) := fun w' A c B e fa fb => iv_ok fa.rd fa.ok E1 fb.rd fb.ok E2 q1
 have I2 : Hid (∀ (t : DV) w' A c B e, End t → Fr w' 0 A (len t.m) c (dg t.m) → Fr w' 0 B (len t.m) e (dg t.m) → Iw w' t.neg A (len t.m) c t.den t.neg B (len t.m) e t.den t t A c B e) := fun t w' A c B e et fa fb => iv_ok fa.rd fa.ok et fb.rd fb.ok et (by grind)
 have EZ := Lib.hid ez; have EU := Lib.hid eu
 clear m1 m2 q1 E1 E2 n1' n2' q2
 obtain ⟨L, hL⟩ : ∃ L, clD a z u = L := ⟨_, rfl⟩; obtain ⟨H, hH⟩ : ∃ H, clD b z u = H := ⟨_, rfl⟩
 rw [hL, hH] at C2 ⊢
 clear hL hH
 have HZ := Lib.hid hz; have HU := Lib.hid hu; have HA := Lib.hid ha; have HT := Lib.hid hT; clear hz hu ha ez eu hT
 obtain ⟨X0, X1, X2, XZ, XE⟩ := clip_boxes w n1 n2 n3 n4 A B X Y k c m e p q r s d1 d2 d3 d4
 have HX0 := Lib.hid X0; have HX1 := Lib.hid X1; have HX2 := Lib.hid X2; have HXZ := Lib.hid XZ; have HE := Lib.hid XE
 obtain ⟨a0, a1, a2⟩ := X1
 obtain ⟨b0, b1, b2⟩ := X2
 clear X0 XZ XE
 generalize hWc : (((w.alloc (.cells #[.bool n1, .slice A k c, I d1, .bool n2, .slice B m e, I d2] 58)).alloc (.cells #[.bool n3, .slice X p q, I d3] 56)).alloc (.cells #[.bool n4, .slice Y r s, I d4] 56)).alloc (.cells #[.bool false, .slice none 0 0, I 0, .bool false, .slice none 0 0, I 0] 58) = wc at *
 go_enter Tryz.func177, Tryz.ntmps177
 go_upto_region 1 with fail
 (try rw [hWc])
 clear hWc
 go_wp2_with (go_at_call 88; (with_reducible refine (cmp_any (HZ.out.ext HE.out) (HU.out.ext HE.out)).mono ?_); rw [EV.out]; rintro e1 w1 ⟨rfl, hx⟩; have HE1 := Lib.hid (HE.out.trans hx); have HXZ1 := Lib.hid (HXZ.out.ext hx); have HXA := Lib.hid (HX0.out.ext hx); have HXL := Lib.hid (HX1.out.ext hx); have HXH := Lib.hid (HX2.out.ext hx); clear hx a0 a1 a2 b0 b1 b2)
 clear HX0 HX1 HX2 HXZ HE
 have lr := HXZ1.out.lt
 have HS : Hid (∀ w', Ext w1 w' → w'.cell? ⟨w.heap.size, 0, none⟩ = some (.bool n1) ∧ w'.cell? ⟨w.heap.size, 1, none⟩ = some (.slice A k c) ∧ w'.cell? ⟨w.heap.size, 2, none⟩ = some (I d1) ∧ w'.cell? ⟨w.heap.size, 3, none⟩ = some (.bool n2) ∧ w'.cell? ⟨w.heap.size, 4, none⟩ = some (.slice B m e) ∧ w'.cell? ⟨w.heap.size, 5, none⟩ = some (I d2) ∧ w'.cell? ⟨w.heap.size + 1, 0, none⟩ = some (.bool n3) ∧ w'.cell? ⟨w.heap.size + 1, 1, none⟩ = some (.slice X p q) ∧ w'.cell? ⟨w.heap.size + 1, 2, none⟩ = some (I d3) ∧ w'.cell? ⟨w.heap.size + 1 + 1, 0, none⟩ = some (.bool n4) ∧ w'.cell? ⟨w.heap.size + 1 + 1, 1, none⟩ = some (.slice Y r s) ∧ w'.cell? ⟨w.heap.size + 1 + 1, 2, none⟩ = some (I d4)) := fun w' e => by
  obtain ⟨⟨i0, i1, i2, i3, i4, i5⟩, iz⟩ := HXA.out.ext e
  obtain ⟨j0, j1, j2⟩ := HXL.out.ext e
  obtain ⟨l0, l1, l2⟩ := HXH.out.ext e
  exact ⟨i0, i1, i2, i3, i4, i5, j0, j1, j2, l0, l1, l2⟩
 have HS2 : Hid (∀ w0 u0 u1 u2 u3 u4 u5, Ext w1 w0 → ((((((w0.setCell ⟨w.heap.size + 1 + 1 + 1, 0, none⟩ u0).setCell ⟨w.heap.size + 1 + 1 + 1, 1, none⟩ u1).setCell ⟨w.heap.size + 1 + 1 + 1, 2, none⟩ u2).setCell ⟨w.heap.size + 1 + 1 + 1, 3, none⟩ u3).setCell ⟨w.heap.size + 1 + 1 + 1, 4, none⟩ u4).setCell ⟨w.heap.size + 1 + 1 + 1, 5, none⟩ u5).cell? ⟨w.heap.size, 0, none⟩ = some (.bool n1) ∧ ((((((w0.setCell ⟨w.heap.size + 1 + 1 + 1, 0, none⟩ u0).setCell ⟨w.heap.size + 1 + 1 + 1, 1, none⟩ u1).setCell ⟨w.heap.size + 1 + 1 + 1, 2, none⟩ u2).setCell ⟨w.heap.size + 1 + 1 + 1, 3, none⟩ u3).setCell ⟨w.heap.size + 1 + 1 + 1, 4, none⟩ u4).setCell ⟨w.heap.size + 1 + 1 + 1, 5, none⟩ u5).cell? ⟨w.heap.size, 1, none⟩ = some (.slice A k c) ∧ ((((((w0.setCell ⟨w.heap.size + 1 + 1 + 1, 0, none⟩ u0).setCell ⟨w.heap.size + 1 + 1 + 1, 1, none⟩ u1).setCell ⟨w.heap.size + 1 + 1 + 1, 2, none⟩ u2).setCell ⟨w.heap.size + 1 + 1 + 1, 3, none⟩ u3).setCell ⟨w.heap.size + 1 + 1 + 1, 4, none⟩ u4).setCell ⟨w.heap.size + 1 + 1 + 1, 5, none⟩ u5).cell? ⟨w.heap.size, 2, none⟩ = some (I d1) ∧ ((((((w0.setCell ⟨w.heap.size + 1 + 1 + 1, 0, none⟩ u0).setCell ⟨w.heap.size + 1 + 1 + 1, 1, none⟩ u1).setCell ⟨w.heap.size + 1 + 1 + 1, 2, none⟩ u2).setCell ⟨w.heap.size + 1 + 1 + 1, 3, none⟩ u3).setCell ⟨w.heap.size + 1 + 1 + 1, 4, none⟩ u4).setCell ⟨w.heap.size + 1 + 1 + 1, 5, none⟩ u5).cell? ⟨w.heap.size, 3, none⟩ = some (.bool n2) ∧ ((((((w0.setCell ⟨w.heap.size + 1 + 1 + 1, 0, none⟩ u0).setCell ⟨w.heap.size + 1 + 1 + 1, 1, none⟩ u1).setCell ⟨w.heap.size + 1 + 1 + 1, 2, none⟩ u2).setCell ⟨w.heap.size + 1 + 1 + 1, 3, none⟩ u3).setCell ⟨w.heap.size + 1 + 1 + 1, 4, none⟩ u4).setCell ⟨w.heap.size + 1 + 1 + 1, 5, none⟩ u5).cell? ⟨w.heap.size, 4, none⟩ = some (.slice B m e) ∧ ((((((w0.setCell ⟨w.heap.size + 1 + 1 + 1, 0, none⟩ u0).setCell ⟨w.heap.size + 1 + 1 + 1, 1, none⟩ u1).setCell ⟨w.heap.size + 1 + 1 + 1, 2, none⟩ u2).setCell ⟨w.heap.size + 1 + 1 + 1, 3, none⟩ u3).setCell ⟨w.heap.size + 1 + 1 + 1, 4, none⟩ u4).setCell ⟨w.heap.size + 1 + 1 + 1, 5, none⟩ u5).cell? ⟨w.heap.size, 5, none⟩ = some (I d2) ∧ ((((((w0.setCell ⟨w.heap.size + 1 + 1 + 1, 0, none⟩ u0).setCell ⟨w.heap.size + 1 + 1 + 1, 1, none⟩ u1).setCell ⟨w.heap.size + 1 + 1 + 1, 2, none⟩ u2).setCell ⟨w.heap.size + 1 + 1 + 1, 3, none⟩ u3).setCell ⟨w.heap.size + 1 + 1 + 1, 4, none⟩ u4).setCell ⟨w.heap.size + 1 + 1 + 1, 5, none⟩ u5).cell? ⟨w.heap.size + 1, 0, none⟩ = some (.bool n3) ∧ ((((((w0.setCell ⟨w.heap.size + 1 + 1 + 1, 0, none⟩ u0).setCell ⟨w.heap.size + 1 + 1 + 1, 1, none⟩ u1).setCell ⟨w.heap.size + 1 + 1 + 1, 2, none⟩ u2).setCell ⟨w.heap.size + 1 + 1 + 1, 3, none⟩ u3).setCell ⟨w.heap.size + 1 + 1 + 1, 4, none⟩ u4).setCell ⟨w.heap.size + 1 + 1 + 1, 5, none⟩ u5).cell? ⟨w.heap.size + 1, 1, none⟩ = some (.slice X p q) ∧ ((((((w0.setCell ⟨w.heap.size + 1 + 1 + 1, 0, none⟩ u0).setCell ⟨w.heap.size + 1 + 1 + 1, 1, none⟩ u1).setCell ⟨w.heap.size + 1 + 1 + 1, 2, none⟩ u2).setCell ⟨w.heap.size + 1 + 1 + 1, 3, none⟩ u3).setCell ⟨w.heap.size + 1 + 1 + 1, 4, none⟩ u4).setCell ⟨w.heap.size + 1 + 1 + 1, 5, none⟩ u5).cell? ⟨w.heap.size + 1, 2, none⟩ = some (I d3) ∧ ((((((w0.setCell ⟨w.heap.size + 1 + 1 + 1, 0, none⟩ u0).setCell ⟨w.heap.size + 1 + 1 + 1, 1, none⟩ u1).setCell ⟨w.heap.size + 1 + 1 + 1, 2, none⟩ u2).setCell ⟨w.heap.size + 1 + 1 + 1, 3, none⟩ u3).setCell ⟨w.heap.size + 1 + 1 + 1, 4, none⟩ u4).setCell ⟨w.heap.size + 1 + 1 + 1, 5, none⟩ u5).cell? ⟨w.heap.size + 1 + 1, 0, none⟩ = some (.bool n4) ∧ ((((((w0.setCell ⟨w.heap.size + 1 + 1 + 1, 0, none⟩ u0).setCell ⟨w.heap.size + 1 + 1 + 1, 1, none⟩ u1).setCell ⟨w.heap.size + 1 + 1 + 1, 2, none⟩ u2).setCell ⟨w.heap.size + 1 + 1 + 1, 3, none⟩ u3).setCell ⟨w.heap.size + 1 + 1 + 1, 4, none⟩ u4).setCell ⟨w.heap.size + 1 + 1 + 1, 5, none⟩ u5).cell? ⟨w.heap.size + 1 + 1, 1, none⟩ = some (.slice Y r s) ∧ ((((((w0.setCell ⟨w.heap.size + 1 + 1 + 1, 0, none⟩ u0).setCell ⟨w.heap.size + 1 + 1 + 1, 1, none⟩ u1).setCell ⟨w.heap.size + 1 + 1 + 1, 2, none⟩ u2).setCell ⟨w.heap.size + 1 + 1 + 1, 3, none⟩ u3).setCell ⟨w.heap.size + 1 + 1 + 1, 4, none⟩ u4).setCell ⟨w.heap.size + 1 + 1 + 1, 5, none⟩ u5).cell? ⟨w.heap.size + 1 + 1, 2, none⟩ = some (I d4)) := fun w0 u0 u1 u2 u3 u4 u5 e => by
  obtain ⟨⟨i0, i1, i2, i3, i4, i5⟩, iz⟩ := HXA.out.ext e
  obtain ⟨j0, j1, j2⟩ := HXL.out.ext e
  obtain ⟨l0, l1, l2⟩ := HXH.out.ext e
  exact ⟨cell_far6 i0 (by omega) _ _ _ _ _ _, cell_far6 i1 (by omega) _ _ _ _ _ _, cell_far6 i2 (by omega) _ _ _ _ _ _, cell_far6 i3 (by omega) _ _ _ _ _ _, cell_far6 i4 (by omega) _ _ _ _ _ _, cell_far6 i5 (by omega) _ _ _ _ _ _, cell_far6 j0 (by omega) _ _ _ _ _ _, cell_far6 j1 (by omega) _ _ _ _ _ _, cell_far6 j2 (by omega) _ _ _ _ _ _, cell_far6 l0 (by omega) _ _ _ _ _ _, cell_far6 l1 (by omega) _ _ _ _ _ _, cell_far6 l2 (by omega) _ _ _ _ _ _⟩
 go_wp2_with fail
 go_region_held3 (fun w' => w'.cell? ⟨w.heap.size, 0, none⟩ = some (.bool n1) ∧ w'.cell? ⟨w.heap.size, 1, none⟩ = some (.slice A k c) ∧ w'.cell? ⟨w.heap.size, 2, none⟩ = some (I d1) ∧ w'.cell? ⟨w.heap.size, 3, none⟩ = some (.bool n2) ∧ w'.cell? ⟨w.heap.size, 4, none⟩ = some (.slice B m e) ∧ w'.cell? ⟨w.heap.size, 5, none⟩ = some (I d2) ∧ w'.cell? ⟨w.heap.size + 1, 0, none⟩ = some (.bool n3) ∧ w'.cell? ⟨w.heap.size + 1, 1, none⟩ = some (.slice X p q) ∧ w'.cell? ⟨w.heap.size + 1, 2, none⟩ = some (I d3) ∧ w'.cell? ⟨w.heap.size + 1 + 1, 0, none⟩ = some (.bool n4) ∧ w'.cell? ⟨w.heap.size + 1 + 1, 1, none⟩ = some (.slice Y r s) ∧ w'.cell? ⟨w.heap.size + 1 + 1, 2, none⟩ = some (I d4)) (first | with_reducible assumption | exact HS.out _ ex2 | exact HS2.out _ _ _ _ _ _ _ ex2)
  (first
   | (have hg := hx3; clear hg; go_at_call 174; (with_reducible refine (imin_any (NI.out.ext ex2) (PU.out.ext ex2) (HT.out.ext (HE1.out.trans ex2))).mono ?_); rw [C2.out.1, C2.out.2]; rintro e1 w5 ⟨P5, f5, Q5, g5, rfl, hfa, hfb, hx4⟩; have FA := Lib.hid hfa; have FB := Lib.hid hfb; clear hfa hfb; obtain ⟨⟨r0, r1, r2, r3, r4, r5⟩, rz⟩ := HXZ1.out.ext (w' := w5) ex2)
   | (have hg := hx2; clear hg; go_at_call 135; (with_reducible refine (ipoint_any (HU.out.ext (HE1.out.trans ex2)) (HT.out.ext (HE1.out.trans ex2))).mono ?_); rintro e1 w4 ⟨P4, f4, Q4, g4, rfl, hfa, hfb, hx3⟩; have PU := Lib.hid (I2.out _ _ _ _ _ _ EU.out (hfa.mono (Nat.zero_le _)) (hfb.mono (Nat.zero_le _))); clear hfa hfb)
   | (have hg := hx1; clear hg; go_at_call 175; (with_reducible refine (imax_any (HA.out.ext (HE1.out.trans ex2)) (PZ.out.ext ex2) (HT.out.ext (HE1.out.trans ex2))).mono ?_); rw [C1.out.1, C1.out.2]; rintro e1 w3 ⟨P3, f3, Q3, g3, rfl, hfa, hfb, hx2⟩; have NI := Lib.hid (I1.out _ _ _ _ _ (hfa.mono (Nat.zero_le _)) (hfb.mono (Nat.zero_le _))); clear hfa hfb)
   | (go_at_call 135; (with_reducible refine (ipoint_any (HZ.out.ext (HE1.out.trans ex2)) (HT.out.ext (HE1.out.trans ex2))).mono ?_); rintro e1 w2 ⟨P2, f2, Q2, g2, rfl, hfa, hfb, hx1⟩; have PZ := Lib.hid (I2.out _ _ _ _ _ _ EZ.out (hfa.mono (Nat.zero_le _)) (hfb.mono (Nat.zero_le _))); clear hfa hfb))
 all_goals
  have HF := Lib.hid (HE1.out.trans (show Ext w1 w5 from ex2))
  have hz2 := Ext.size (show Ext w1 w4 from ex2)
  have fa := FA.out; have fb := FB.out
  (try simp only [World.size_drew] at fa fb hz2)
  go_wp2_with fail
  exact bodyPost_ret (v := .tuple #[ivd L P5 f5 H Q5 g5, .nilIface]) (by simp [results, Tryz.results177, go_sem, r0, r1, r2, r3, r4, r5]) rfl (IvOk.end6 rfl fa fb HF.out (by omega) (by (try simp); omega) (by (try simp); omega))
end
section
open Go.RowKit
attribute [local go_sem ↓] Go.wp_at_zero Go.wp_at_succ
set_option maxRecDepth 100000 in
set_option maxHeartbeats 1000000 in
theorem iints_any {w : World} (p q : Int) (p1 : -9223372036854775808 ≤ p) (p2 : p ≤ 9223372036854775807) (q1 : -9223372036854775808 ≤ q) (q2 : q ≤ 9223372036854775807) (hT : Tabs w) :
  Calls Tryz.prog 168 #[I p, I q] w (IvRes (lo2 (ofI p 0) (ofI q 0)) (hi2 (ofI p 0) (ofI q 0)) w) := by
 obtain ⟨u, hu⟩ : ∃ u, ofI p 0 = u := ⟨_, rfl⟩
 obtain ⟨v, hv⟩ : ∃ v, ofI q 0 = v := ⟨_, rfl⟩
 have Wu : Hid (u.ok ∧ len u.m ≤ 16777216) := ⟨hu ▸ ofI_ok _ _, by rw [← hu]; exact Nat.le_trans (len_mono (mkD_m_le _ _ _)) (Nat.le_trans (len_le (n := 2) (by unfold pB; omega)) (by decide))⟩
 have Wv : Hid (v.ok ∧ len v.m ≤ 16777216) := ⟨hv ▸ ofI_ok _ _, by rw [← hv]; exact Nat.le_trans (len_mono (mkD_m_le _ _ _)) (Nat.le_trans (len_le (n := 2) (by unfold pB; omega)) (by decide))⟩
 rw [hu, hv]
 have Eu := Lib.hid hu; have Ev := Lib.hid hv; have HT := Lib.hid hT; have P1 := Lib.hid p1; have P2 := Lib.hid p2; have Q1 := Lib.hid q1; have Q2 := Lib.hid q2; clear hu hv hT p1 p2 q1 q2
 have HXZ := Lib.hid (B6.new w (.bool false) (.slice none 0 0) (I 0) (.bool false) (.slice none 0 0) (I 0) 58)
 have HE := Lib.hid (Ext.alloc w (.cells #[.bool false, .slice none 0 0, I 0, .bool false, .slice none 0 0, I 0] 58))
 generalize hWc : w.alloc (.cells #[.bool false, .slice none 0 0, I 0, .bool false, .slice none 0 0, I 0] 58) = W9 at HXZ HE
 go_enter Tryz.func168, Tryz.ntmps168
 go_upto_region 1 with fail
 (try rw [hWc])
 clear hWc
 have hlx := HXZ.out.lt; have hnx := Nat.ne_of_lt hlx
 go_wp2_with (first
  | (have hg := hx2; clear hg; go_at_call 182; (with_reducible refine (least1 (D1.out.ext ex2) (D2.out.ext ex2) (HT.out.ext (HE.out.trans ex2)) (St.new _ _ _ _ _)).mono ?_); rintro e1 w3 ⟨A3, c3, B3, k3, rfl, hfa, hfb, hx3⟩; have FA := Lib.hid hfa; have FB := Lib.hid hfb; clear hfa hfb; obtain ⟨⟨r0, r1, r2, r3, r4, r5⟩, rz⟩ := HXZ.out.ext (w' := w3) ex2)
  | (have hg := hx1; clear hg; go_at_call 163; (with_reducible refine (of_any q _ (HT.out.ext (HE.out.trans ex2)) Q1.out Q2.out).mono ?_); rw [Ev.out]; rintro e1 w2 ⟨A2, c2, rfl, hon, hx2⟩; have D2 := Lib.hid (Dy.of_on hon Wv.out.1 Wv.out.2 (Ext.refl _)); clear hon)
  | (go_at_call 163; (with_reducible refine (of_any p _ (HT.out.ext (HE.out.trans ex2)) P1.out P2.out).mono ?_); rw [Eu.out]; rintro e1 w1 ⟨A1, c1, rfl, hon, hx1⟩; have D1 := Lib.hid (Dy.of_on hon Wu.out.1 Wu.out.2 (Ext.refl _)); clear hon))
 have HF := Lib.hid (HE.out.trans (show Ext W9 w3 from ex2))
 have hz2 := Ext.size (show Ext W9 w2 from ex2)
 exact bodyPost_ret (v := ivd (lo2 u v) A3 c3 (hi2 u v) B3 k3) (by simp [results, Tryz.results168, go_sem, r0, r1, r2, r3, r4, r5]) rfl (IvRes.end6 rfl FA.out FB.out HF.out (by omega) (by (try simp); omega) (by (try simp); omega))
end
section
open Go.RowKit
attribute [local go_sem ↓] Go.wp_at_zero Go.wp_at_succ
end
section
open Go.RowKit
set_option maxRecDepth 100000 in
set_option maxHeartbeats 1000000 in
theorem ceil_any {w : World} {neg : Bool} {A A' : Option Addr} {n c c' : Nat} {den : Int} {d : DV} (k : Nat) (h : Dy w neg A n c den d A' c') (hT : Tabs w) (hk : k ≤ 65536) (hs : len d.m ≤ 1048576) : Calls Tryz.prog 186 #[dv neg A n c den, I k] w (DyOk (ceilD d k) w) := by
 have H := Lib.hid h; have HT := Lib.hid hT; clear h hT
 have hl1 := H.out.lim
 obtain ⟨X0, X1, XE⟩ : Bx ((w.alloc (.cells #[.bool neg, .slice A n c, I den] 56)).alloc (.cells #[.bool false, .slice none 0 0, I 0] 56)) w.heap.size (.bool neg) (.slice A n c) (I den) ∧
   Bx ((w.alloc (.cells #[.bool neg, .slice A n c, I den] 56)).alloc (.cells #[.bool false, .slice none 0 0, I 0] 56)) (w.heap.size + 1) (.bool false) (.slice none 0 0) (I 0) ∧
   Ext w ((w.alloc (.cells #[.bool neg, .slice A n c, I den] 56)).alloc (.cells #[.bool false, .slice none 0 0, I 0] 56)) := two_bx (Ext.refl _)
 have HX1 := Lib.hid X1; have HXE := Lib.hid XE
 clear X0 X1 XE
 obtain ⟨x, hx⟩ : ∃ x, negD d = x := ⟨_, rfl⟩
 obtain ⟨y, hy⟩ : ∃ y, floorD x k = y := ⟨_, rfl⟩
 obtain ⟨z, hz⟩ : ∃ z, negD y = z := ⟨_, rfl⟩
 have HZ : Hid (ceilD d k = z) := by show _ = _; unfold ceilD; rw [hx, hy, hz]
 rw [HZ.out]
 have hlx : len x.m ≤ len d.m := by rw [← hx]; exact len_mono (mkD_m_le _ _ _)
 have hly : len y.m ≤ len x.m + 1 := by
  have hq : ∀ j, len (x.m / 2 ^ j) ≤ len x.m := fun j => len_mono (Nat.div_le_self _ _)
  rw [← hy]; unfold floorD
  split
  ·omega
  ·refine Nat.le_trans (len_mono (mkD_m_le _ _ _)) ?_
   split
   ·exact Nat.le_trans (len_succ _) (by have := hq (x.den - k); omega)
   ·exact Nat.le_succ_of_le (hq _)
 have Wx : Hid (x.ok ∧ len x.m ≤ 16777216) := ⟨hx ▸ negD_ok _, by omega⟩
 have Wy : Hid (y.ok ∧ len y.m ≤ 16777216) := ⟨hy ▸ floorD_ok Wx.out.1 _, by omega⟩
 have Ex : Hid (negD d = x) := hx
 have Ey : Hid (floorD x k = y) := hy
 have Ez : Hid (negD y = z) := hz
 clear hx hy hz hlx hly
 go_enter Tryz.func186, Tryz.ntmps186
 go_wp2_with (first
  | (have hg := X3; clear hg; go_at_call 142; refine (neg_any (D3.out _ (Ext.alloc _ _)) (HT.out.ext (X3.out.trans (Ext.alloc _ _)))).mono ?_; rw [Ez.out]; rintro e w4 ⟨A4, c4, rfl, hon, hx⟩; obtain ⟨⟨r0, r1, r2⟩, rz⟩ := B3.out.ext ((Ext.alloc _ _).trans hx); have HO := Lib.hid hon; have X4 := Lib.hid ((X3.out.trans (Ext.alloc _ _)).trans hx); clear hon hx)
  | (go_at_call 185; refine (floor_any k (D2.out _ (Ext.refl _)) (HT.out.ext X2.out) hk).mono ?_; rw [Ey.out]; rintro e w3 ⟨A3, c3, rfl, hon, hx⟩; have D3 := Lib.hid (Dy.at_ hon Wy.out.1 Wy.out.2); have X3 := Lib.hid (X2.out.trans hx); have B3 := Lib.hid (B2.out.ext hx); clear hon hx)
  | (go_at_call 142; refine (neg_any (H.out.ext HXE.out) (HT.out.ext HXE.out)).mono ?_; rw [Ex.out]; rintro e w2 ⟨A2, c2, rfl, hon, hx⟩; have D2 := Lib.hid (Dy.at_ hon Wx.out.1 Wx.out.2); have X2 := Lib.hid (HXE.out.trans hx); have B2 := Lib.hid (HX1.out.ext hx); clear hon hx))
 all_goals
  have hsz := X3.out.size
  have hlt := B3.out.lt
  exact bodyPost_ret (v := .tuple #[dv z.neg A4 (len z.m) c4 z.den, .nilIface]) (by simp [results, Tryz.results186, go_sem, r0, r1, r2]) rfl (DyOk.end3 rfl HO.out X4.out (by simp; omega) (by omega) (by simp; omega))
theorem cut_odd {m j : Nat} (h : m % 2 = 1) (hj : 0 < j) : decide (m % 2 ^ j ≠ 0) = true := by
 refine decide_eq_true fun e => ?_
 have : 2 ∣ 2 ^ j := ⟨2 ^ (j - 1), by rw [← Nat.pow_succ']; congr 1; omega⟩
 have h2 := Nat.mod_mod_of_dvd m this
 rw [e] at h2
 omega
end
end Go.Proofs.YtgnngldlgcdnfaaGreatDoor

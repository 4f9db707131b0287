import Derived.Test.YtgnngldlgcdnfaaGreatDoorQax
import Derived.Test.YtgnngldlgcdnfaaGreatDoorQae
import Derived.Deep.DeepCutAuto
import Derived.Deep.DrawnRows
import Derived.Test.YtgnngldlgcdnfaaGreatDoorQay
import Derived.Test.YtgnngldlgcdnfaaGreatDoorQas
import Derived.Deep.RegionHeld3
import Derived.Test.YtgnngldlgcdnfaaGreatDoorQav
namespace Go.Proofs.YtgnngldlgcdnfaaGreatDoor
section
open Go.RowKit
end
section
section
open Go.RowKit
attribute [local go_sem ↓] Go.wp_at_zero Go.wp_at_succ
set_option maxRecDepth 100000 in
set_option maxHeartbeats 1000000 in
theorem ricontains_any {w : World} {n1 n2 : Bool} {A B A' B' : Option Addr} {k c m e c' e' : Nat} {d1 d2 : Int} {a b : DV} {n3 : Bool} {X X' : Option Addr} {p q q' : Nat} {d3 : Int} {x : DV} (ha : Iw w n1 A k c d1 n2 B m e d2 a b A' c' B' e') (hb : Dy w n3 X p q d3 x X' q') (hlx : len x.m ≤ 4194304) :
  Calls Tryz.prog 36 #[iv n1 A k c d1 n2 B m e d2, dv n3 X p q d3] w fun e' w' => e' = .returned (.bool (conB a b x)) ∧ Ext w w' := by
 obtain ⟨v, hv⟩ : ∃ v, cmpD a x = v := ⟨_, rfl⟩
 obtain ⟨z, hz⟩ : ∃ z, cmpD x b = z := ⟨_, rfl⟩
 by_cases h : v ≤ 0
 ·rw [conB_t hv h hz]
  have Ev := Lib.hid hv; have Ez := Lib.hid hz; clear hv hz
  have SA := Lib.hid (bd_sub (bd_end ha.wa) (⟨hb.wf, hlx⟩ : Bdd x)); have SB := Lib.hid (bd_sub (⟨hb.wf, hlx⟩ : Bdd x) (bd_end ha.wb)); have HA := Lib.hid ha; have HB := Lib.hid hb; clear ha hb
  obtain ⟨X0, X1, XE⟩ := boxesN w n1 n2 A B k c m e d1 d2 n3 X p q d3
  have HX0 := Lib.hid X0; have HX1 := Lib.hid X1; have HXE := Lib.hid XE
  clear X0 X1 XE
  go_enter Tryz.func36, Tryz.ntmps36
  go_upto_region 1 with fail
  go_cut [] (fun wx => NumI w a b A' c' B' e' n3 X p q d3 wx)
  case first =>
   obtain ⟨⟨k0, k1, k2, k3, k4, k5⟩, kz⟩ := HX0.out
   go_wp2_with (go_at_call 79; (with_reducible refine (HA.out.nrm _ HXE.out).mono ?_); rintro e1 w1 ⟨rfl, hx⟩; clear k0 k1 k2 k3 k4 k5 kz; obtain ⟨⟨k0, k1, k2, k3, k4, k5⟩, kz⟩ := HX0.out.ext hx; have HX := Lib.hid hx; clear hx)
   go_meet
   exact numI_of HX0.out HX1.out HXE.out HX.out
  case rest =>
   clear HX0 HX1 HXE
   obtain ⟨hE, hX0, hX1⟩ := hcut
   have HE := Lib.hid hE; have HX0 := Lib.hid hX0; have HX1 := Lib.hid hX1
   clear hE hX0 hX1
   obtain ⟨⟨k0, k1, k2, k3, k4, k5⟩, kz⟩ := HX0.out
   obtain ⟨⟨l0, l1, l2⟩, lz⟩ := HX1.out
   go_wp2_with (first
    | (have hg := X1; clear hg; go_at_call 95; (with_reducible refine (rdcmp_any (HB.out.ext (HE.out.trans X1.out)) (HA.out.dyb.ext (HE.out.trans X1.out)) SB.out.1 SB.out.2).mono ?_); rw [Ez.out]; rintro e2 w2 ⟨rfl, hx⟩; have X2 := Lib.hid (X1.out.trans hx); clear hx)
    | (go_at_call 95; (with_reducible refine (rdcmp_any (HA.out.dya.ext (HE.out.trans (Ext.refl _))) (HB.out.ext (HE.out.trans (Ext.refl _))) SA.out.1 SA.out.2).mono ?_); rw [Ev.out]; rintro e1 w1 ⟨rfl, hx⟩; have X1 := Lib.hid hx; clear k0 k1 k2 k3 k4 k5 kz l0 l1 l2 lz; obtain ⟨⟨k0, k1, k2, k3, k4, k5⟩, kz⟩ := HX0.out.ext hx; obtain ⟨⟨l0, l1, l2⟩, lz⟩ := HX1.out.ext hx; clear hx))
   go_ret
   exact ⟨rfl, HE.out.trans X2.out⟩
 ·rw [conB_f hv h]
  have Ev := Lib.hid hv; have Ez := Lib.hid hz; clear hv hz
  have SA := Lib.hid (bd_sub (bd_end ha.wa) (⟨hb.wf, hlx⟩ : Bdd x)); have SB := Lib.hid (bd_sub (⟨hb.wf, hlx⟩ : Bdd x) (bd_end ha.wb)); have HA := Lib.hid ha; have HB := Lib.hid hb; clear ha hb
  obtain ⟨X0, X1, XE⟩ := boxesN w n1 n2 A B k c m e d1 d2 n3 X p q d3
  have HX0 := Lib.hid X0; have HX1 := Lib.hid X1; have HXE := Lib.hid XE
  clear X0 X1 XE
  go_enter Tryz.func36, Tryz.ntmps36
  go_upto_region 1 with fail
  go_cut [] (fun wx => NumI w a b A' c' B' e' n3 X p q d3 wx)
  case first =>
   obtain ⟨⟨k0, k1, k2, k3, k4, k5⟩, kz⟩ := HX0.out
   go_wp2_with (go_at_call 79; (with_reducible refine (HA.out.nrm _ HXE.out).mono ?_); rintro e1 w1 ⟨rfl, hx⟩; clear k0 k1 k2 k3 k4 k5 kz; obtain ⟨⟨k0, k1, k2, k3, k4, k5⟩, kz⟩ := HX0.out.ext hx; have HX := Lib.hid hx; clear hx)
   go_meet
   exact numI_of HX0.out HX1.out HXE.out HX.out
  case rest =>
   clear HX0 HX1 HXE
   obtain ⟨hE, hX0, hX1⟩ := hcut
   have HE := Lib.hid hE; have HX0 := Lib.hid hX0; have HX1 := Lib.hid hX1
   clear hE hX0 hX1
   obtain ⟨⟨k0, k1, k2, k3, k4, k5⟩, kz⟩ := HX0.out
   obtain ⟨⟨l0, l1, l2⟩, lz⟩ := HX1.out
   go_wp2_with (go_at_call 95; (with_reducible refine (rdcmp_any (HA.out.dya.ext (HE.out.trans (Ext.refl _))) (HB.out.ext (HE.out.trans (Ext.refl _))) SA.out.1 SA.out.2).mono ?_); rw [Ev.out]; rintro e1 w1 ⟨rfl, hx⟩; have X1 := Lib.hid hx; clear k0 k1 k2 k3 k4 k5 kz l0 l1 l2 lz; obtain ⟨⟨k0, k1, k2, k3, k4, k5⟩, kz⟩ := HX0.out.ext hx; obtain ⟨⟨l0, l1, l2⟩, lz⟩ := HX1.out.ext hx; clear hx)
   go_ret
   exact ⟨rfl, HE.out.trans X1.out⟩
end
section
open Go.RowKit
attribute [local go_sem ↓] Go.wp_at_zero Go.wp_at_succ
set_option maxRecDepth 100000 in
set_option maxHeartbeats 1000000 in
theorem riints_any {w : World} (p q : Int) (p1 : -9223372036854775808 ≤ p) (p2 : p ≤ 9223372036854775807) (q1 : -9223372036854775808 ≤ q) (q2 : q ≤ 9223372036854775807) :
  Calls Tryz.prog 53 #[I p, I q] w (IvRes (lo2 (ofI p 0) (ofI q 0)) (hi2 (ofI p 0) (ofI q 0)) w) := by
 obtain ⟨u, hu⟩ : ∃ u, ofI p 0 = u := ⟨_, rfl⟩
 obtain ⟨v, hv⟩ : ∃ v, ofI q 0 = v := ⟨_, rfl⟩
 have Wu : Hid (Bdd u) := hu ▸ bd_of p p1 p2
 have Wv : Hid (Bdd v) := hv ▸ bd_of q q1 q2
 rw [hu, hv]
 have Eu := Lib.hid hu; have Ev := Lib.hid hv; have P1 := Lib.hid p1; have P2 := Lib.hid p2; have Q1 := Lib.hid q1; have Q2 := Lib.hid q2; clear hu hv p1 p2 q1 q2
 have HXZ := Lib.hid (B6.new w (.bool false) (.slice none 0 0) (I 0) (.bool false) (.slice none 0 0) (I 0) 58)
 have HE := Lib.hid (Ext.alloc w (.cells #[.bool false, .slice none 0 0, I 0, .bool false, .slice none 0 0, I 0] 58))
 generalize hWc : w.alloc (.cells #[.bool false, .slice none 0 0, I 0, .bool false, .slice none 0 0, I 0] 58) = W9 at HXZ HE
 go_enter Tryz.func53, Tryz.ntmps53
 go_upto_region 1 with fail
 (try rw [hWc])
 clear hWc
 have hlx := HXZ.out.lt; have hnx := Nat.ne_of_lt hlx
 go_wp2_with (first
  | (have hg := hx2; clear hg; go_at_call 92; (with_reducible refine (span2 (D1.out.ext ex2) (D2.out.ext ex2) Wu.out Wv.out (S6.new _ _ _ _ _ _ _ _)).mono ?_); rintro e1 w3 ⟨A3, c3, B3, k3, rfl, hfa, hfb, hx3⟩; have FA := Lib.hid hfa; have FB := Lib.hid hfb; clear hfa hfb; obtain ⟨⟨r0, r1, r2, r3, r4, r5⟩, rz⟩ := HXZ.out.ext (w' := w3) ex2)
  | (have hg := hx1; clear hg; go_at_call 27; (with_reducible refine (rof_any q _ Q1.out Q2.out).mono ?_); rw [Ev.out]; rintro e1 w2 ⟨A2, c2, rfl, hon, hx2⟩; have D2 := Lib.hid (Dy.of_on hon Wv.out.1 Wv.out.lim (Ext.refl _)); clear hon)
  | (go_at_call 27; (with_reducible refine (rof_any p _ P1.out P2.out).mono ?_); rw [Eu.out]; rintro e1 w1 ⟨A1, c1, rfl, hon, hx1⟩; have D1 := Lib.hid (Dy.of_on hon Wu.out.1 Wu.out.lim (Ext.refl _)); clear hon))
 have HF := Lib.hid (HE.out.trans (show Ext W9 w3 from ex2))
 have hz2 := Ext.size (show Ext W9 w2 from ex2)
 exact bodyPost_ret (v := ivd (lo2 u v) A3 c3 (hi2 u v) B3 k3) (by simp [results, Tryz.results53, go_sem, r0, r1, r2, r3, r4, r5]) rfl (IvRes.end6 rfl FA.out FB.out HF.out (by omega) (by (try simp); omega) (by (try simp); omega))
end
section
open Go.RowKit
attribute [local go_sem ↓] Go.wp_at_zero Go.wp_at_succ
def RvOk (a b : DV) (w : World) (e : Ending) (w' : World) : Prop := ∃ A c B k, e = .returned (.tuple #[ivd a A c b B k, I 0]) ∧ Fr w' w.heap.size A (len a.m) c (dg a.m) ∧ Fr w' w.heap.size B (len b.m) k (dg b.m) ∧ Ext w w'
theorem RvOk.end6 {a b : DV} {w w2 : World} {A B : Option Addr} {c k g b1 b2 : Nat} {e : Ending} {u0 u1 u2 u3 u4 u5 : Value} (he : e = .returned (.tuple #[ivd a A c b B k, I 0])) (ha : Fr w2 b1 A (len a.m) c (dg a.m)) (hb : Fr w2 b2 B (len b.m) k (dg b.m)) (hx : Ext w w2) (hg : w.heap.size ≤ g) (h1 : g < b1) (h2 : g < b2) :
  RvOk a b w e ((((((w2.setCell ⟨g, 0, none⟩ u0).setCell ⟨g, 1, none⟩ u1).setCell ⟨g, 2, none⟩ u2).setCell ⟨g, 3, none⟩ u3).setCell ⟨g, 4, none⟩ u4).setCell ⟨g, 5, none⟩ u5) :=
 ⟨A, c, B, k, he, (ha.set6 h1 _ _ _ _ _ _).mono (by omega), (hb.set6 h2 _ _ _ _ _ _).mono (by omega), ext_set6 hx hg _ _ _ _ _ _⟩
end
section
open Go.RowKit
set_option maxRecDepth 100000 in
set_option maxHeartbeats 60000000 in
theorem least_one {w : World} {n0 : Bool} {A0 A0' : Option Addr} {k0 c0 c0' : Nat} {d0 : Int} {x : DV} (hx0 : Dy w n0 A0 k0 c0 d0 x A0' c0') (hT : Tabs w) :
  Calls Tryz.prog 182 #[dv n0 A0 k0 c0 d0, .slice none 0 0] w (IvRes x x w) := by
 have HX := Lib.hid hx0; have HT := Lib.hid hT; clear hx0 hT
 have H0 : Hid (minD x x = x ∧ maxD x x = x) := ⟨minD_self x, maxD_self x⟩
 have B0 := Lib.hid ((Bx.new w (.bool n0) (.slice A0 k0 c0) (I d0) 56).ext (Ext.alloc _ (.cells #[.bool false, .slice none 0 0, I 0, .bool false, .slice none 0 0, I 0] 58)))
 have B1 : Hid (B6 ((w.alloc (.cells #[.bool n0, .slice A0 k0 c0, I d0] 56)).alloc (.cells #[.bool false, .slice none 0 0, I 0, .bool false, .slice none 0 0, I 0] 58)) (w.heap.size + 1) (.bool false) (.slice none 0 0) (I 0) (.bool false) (.slice none 0 0) (I 0)) := by
  have s := B6.new (w.alloc (.cells #[.bool n0, .slice A0 k0 c0, I d0] 56)) (.bool false) (.slice none 0 0) (I 0) (.bool false) (.slice none 0 0) (I 0) 58
  rw [show (w.alloc (.cells #[.bool n0, .slice A0 k0 c0, I d0] 56)).heap.size = w.heap.size + 1 by simp] at s
  exact s
 have E1 : Hid (Ext w ((w.alloc (.cells #[.bool n0, .slice A0 k0 c0, I d0] 56)).alloc (.cells #[.bool false, .slice none 0 0, I 0, .bool false, .slice none 0 0, I 0] 58))) := (Ext.alloc _ _).trans (Ext.alloc _ _)
 go_enter Tryz.func182, Tryz.ntmps182
 go_upto_region 1 with fail
 go_cut [5, 6] (fun s5 s6 wx => ∃ p q, s5 = .pointer (some ⟨p, 0, none⟩) ∧ s6 = .pointer (some ⟨q, 0, none⟩) ∧ Hid (Lst w wx p q x x))
 case first =>
  have hsz : ((w.alloc (.cells #[.bool n0, .slice A0 k0 c0, I d0] 56)).alloc (.cells #[.bool false, .slice none 0 0, I 0, .bool false, .slice none 0 0, I 0] 58)).heap.size = w.heap.size + 1 + 1 := by simp
  have HS3 : Hid (∀ w', Ext ((w.alloc (.cells #[.bool n0, .slice A0 k0 c0, I d0] 56)).alloc (.cells #[.bool false, .slice none 0 0, I 0, .bool false, .slice none 0 0, I 0] 58)) w' → w'.cell? ⟨w.heap.size, 0, none⟩ = some (.bool n0) ∧ w'.cell? ⟨w.heap.size, 1, none⟩ = some (.slice A0 k0 c0) ∧ w'.cell? ⟨w.heap.size, 2, none⟩ = some (I d0)) := fun w' e => by
   obtain ⟨p0, q0, r0⟩ := (B0.out.ext e).1
   exact ⟨p0, q0, r0⟩
  have B1' := B1
  generalize hW : (w.alloc (.cells #[.bool n0, .slice A0 k0 c0, I d0] 56)).alloc (.cells #[.bool false, .slice none 0 0, I 0, .bool false, .slice none 0 0, I 0] 58) = W0 at *
  clear hW
  have HSZ := Lib.hid hsz
  clear hsz
  go_region_held3 (fun w' => w'.cell? ⟨w.heap.size, 0, none⟩ = some (.bool n0) ∧ w'.cell? ⟨w.heap.size, 1, none⟩ = some (.slice A0 k0 c0) ∧ w'.cell? ⟨w.heap.size, 2, none⟩ = some (I d0)) (first | with_reducible assumption | exact HS3.out _ ex2)
   (first
    | (have hg := hx1; clear hg; go_at_call 183; (with_reducible refine (max_any (HX.out.ext (E1.out.trans ex2)) (HX.out.ext (E1.out.trans ex2)) (HT.out.ext (E1.out.trans ex2))).mono ?_); rw [H0.out.2]; rintro e w2 ⟨A2, c2, rfl, hon2, hx2⟩; have O2 := Lib.hid hon2; clear hon2; have g2 := Ext.size hx2; (try simp only [World.size_alloc] at g2); (first
     | (have V1 := Lib.hid (U1.out.ext hx2); have V2 := Lib.hid (U2.out.ext hx2); obtain ⟨⟨v10, v11, v12⟩, v13⟩ := V1.out; obtain ⟨⟨v20, v21, v22⟩, v23⟩ := V2.out; have l1 := V1.out.lt; have m1 := Nat.ne_of_lt l1; have n1 := Nat.ne_of_gt l1; have l2 := V2.out.lt; have m2 := Nat.ne_of_lt l2; have n2 := Nat.ne_of_gt l2)
     | ((with_reducible have u2 := one_new hx2); have V2 := Lib.hid u2; have V1 := Lib.hid (U1.out.ext ((Ext.alloc _ _).trans hx2)); clear u2; obtain ⟨⟨v10, v11, v12⟩, v13⟩ := V1.out; obtain ⟨⟨v20, v21, v22⟩, v23⟩ := V2.out; have l1 := V1.out.lt; have m1 := Nat.ne_of_lt l1; have n1 := Nat.ne_of_gt l1; have l2 := V2.out.lt; have m2 := Nat.ne_of_lt l2; have n2 := Nat.ne_of_gt l2)
     | (have V1 := Lib.hid (U1.out.ext hx2); obtain ⟨⟨v10, v11, v12⟩, v13⟩ := V1.out; have l1 := V1.out.lt; have m1 := Nat.ne_of_lt l1; have n1 := Nat.ne_of_gt l1)
     | ((with_reducible have uu := two_new hx2); obtain ⟨u1, u2⟩ := uu; have V1 := Lib.hid u1; have V2 := Lib.hid u2; clear u1 u2; obtain ⟨⟨v10, v11, v12⟩, v13⟩ := V1.out; obtain ⟨⟨v20, v21, v22⟩, v23⟩ := V2.out; have l1 := V1.out.lt; have m1 := Nat.ne_of_lt l1; have n1 := Nat.ne_of_gt l1; have l2 := V2.out.lt; have m2 := Nat.ne_of_lt l2; have n2 := Nat.ne_of_gt l2)
     | ((with_reducible have u1 := one_new hx2); have V1 := Lib.hid u1; clear u1; obtain ⟨⟨v10, v11, v12⟩, v13⟩ := V1.out; have l1 := V1.out.lt; have m1 := Nat.ne_of_lt l1; have n1 := Nat.ne_of_gt l1)
     | skip))
    | (go_at_call 202; (with_reducible refine (min_any (HX.out.ext (E1.out.trans ex2)) (HX.out.ext (E1.out.trans ex2)) (HT.out.ext (E1.out.trans ex2))).mono ?_); rw [H0.out.1]; rintro e w1 ⟨A1, c1, rfl, hon1, hx1⟩; have O1 := Lib.hid hon1; clear hon1; have g1 := Ext.size hx1; (try simp only [World.size_drew, World.size_alloc] at g1); (first | ((with_reducible have uu := two_newd hx1); obtain ⟨u1, u2⟩ := uu; have U1 := Lib.hid u1; have U2 := Lib.hid u2; clear u1 u2) | ((with_reducible have u1 := one_newd hx1); have U1 := Lib.hid u1; clear u1) | skip)))
  all_goals
   go_wp2_with fail
   go_meet
   have o1 := O1.out
   have o2 := O2.out
   simp only [World.size_drew, World.size_alloc] at o1 o2
   refine ⟨_, _, rfl, rfl, A1, c1, A2, c2, E1.out.trans ex2, ⟨⟨by go_simp, by go_simp, by go_simp⟩, fun i => by go_simp⟩, ⟨⟨by go_simp, by go_simp, by go_simp⟩, fun i => by go_simp⟩, B1'.out.ext ex2, by omega, by have := HSZ.out; omega, by have := HSZ.out; omega, ?_, ?_⟩
   ·with_reducible (repeat (first | refine Off.setp ?_ _ _ | refine Off.setq ?_ _ _ | refine Off.toAlloc ?_))
    exact (On.off o1 (by have := HSZ.out; omega) (by omega) (by omega)).ext ex2
   ·with_reducible (repeat (first | refine Off.setp ?_ _ _ | refine Off.setq ?_ _ _ | refine Off.toAlloc ?_))
    exact (On.off o2 (by have := HSZ.out; omega) (by omega) (by omega)).ext ex2
 case rest =>
  obtain ⟨p, q, rfl, rfl, hl⟩ := hcut
  clear H0 B0 B1 E1
  go_wp2
  go_loopw [17] (fun s wr => s = I 0 ∧ Hid (Lst w wr p q x x)) (fun s _ => 0)
  case atStart => exact ⟨rfl, hl⟩
  case round =>
   obtain ⟨rfl, hlr⟩ := hrel
   clear hl
   obtain ⟨A, c, B, e, hx, hp, hq, hz, hne, h1, h2, oa, ob⟩ := hlr.out
   have OA := Lib.hid oa; have OB := Lib.hid ob; have EW := Lib.hid hx
   have hp0 := hp.lt; have hq0 := hq.lt
   obtain ⟨⟨a0, a1, a2⟩, a3⟩ := hp
   obtain ⟨⟨b0, b1, b2⟩, b3⟩ := hq
   obtain ⟨⟨r0, r1, r2, r3, r4, r5⟩, rz⟩ := hz
   have hpn := Nat.ne_of_lt h1; have hqn := Nat.ne_of_lt h2; have hpn' := Nat.ne_of_gt h1; have hqn' := Nat.ne_of_gt h2
   clear hlr hx hne oa ob HX HT
   go_wp2
   exact bodyPost_ret (v := ivd x A c x B e) (by simp [results, Tryz.results182, go_sem, r0, r1, r2, r3, r4, r5]) rfl (IvRes.end6 rfl OA.out.1 OB.out.1 EW.out (by omega) (by omega) (by omega))
set_option maxRecDepth 100000 in
set_option maxHeartbeats 8000000 in
theorem ipoint_any {w : World} {n0 : Bool} {A0 A0' : Option Addr} {k0 c0 c0' : Nat} {d0 : Int} {x : DV} (hx : Dy w n0 A0 k0 c0 d0 x A0' c0') (hT : Tabs w) :
  Calls Tryz.prog 135 #[dv n0 A0 k0 c0 d0] w (IvRes x x w) := by
 have HX := Lib.hid hx; have HT := Lib.hid hT; clear hx hT
 have B0 := Lib.hid ((Bx.new w (.bool n0) (.slice A0 k0 c0) (I d0) 56).ext (Ext.alloc _ (.cells #[.bool false, .slice none 0 0, I 0, .bool false, .slice none 0 0, I 0] 58)))
 have B1 : Hid (B6 ((w.alloc (.cells #[.bool n0, .slice A0 k0 c0, I d0] 56)).alloc (.cells #[.bool false, .slice none 0 0, I 0, .bool false, .slice none 0 0, I 0] 58)) (w.heap.size + 1) (.bool false) (.slice none 0 0) (I 0) (.bool false) (.slice none 0 0) (I 0)) := by
  have s := B6.new (w.alloc (.cells #[.bool n0, .slice A0 k0 c0, I d0] 56)) (.bool false) (.slice none 0 0) (I 0) (.bool false) (.slice none 0 0) (I 0) 58
  rw [show (w.alloc (.cells #[.bool n0, .slice A0 k0 c0, I d0] 56)).heap.size = w.heap.size + 1 by simp] at s
  exact s
 have E1 : Hid (Ext w ((w.alloc (.cells #[.bool n0, .slice A0 k0 c0, I d0] 56)).alloc (.cells #[.bool false, .slice none 0 0, I 0, .bool false, .slice none 0 0, I 0] 58))) := (Ext.alloc _ _).trans (Ext.alloc _ _)
 obtain ⟨⟨j0, j1, j2⟩, jz⟩ := B0.out
 go_enter Tryz.func135, Tryz.ntmps135
 go_wp2_with (go_at_call 182; (with_reducible refine (least_one (HX.out.ext E1.out) (HT.out.ext E1.out)).mono ?_); rintro e1 w1 ⟨A1, c1, C1, e1', rfl, hfa, hfb, hx⟩; obtain ⟨⟨r0, r1, r2, r3, r4, r5⟩, rz⟩ := B1.out.ext hx; have E2 := Lib.hid (E1.out.trans hx); have FA := Lib.hid hfa; have FB := Lib.hid hfb; clear hx hfa hfb)
 have hsz : ((w.alloc (.cells #[.bool n0, .slice A0 k0 c0, I d0] 56)).alloc (.cells #[.bool false, .slice none 0 0, I 0, .bool false, .slice none 0 0, I 0] 58)).heap.size = w.heap.size + 1 + 1 := by simp
 exact bodyPost_ret (v := ivd x A1 c1 x C1 e1') (by simp [results, Tryz.results135, go_sem, r0, r1, r2, r3, r4, r5]) rfl (IvRes.end6 rfl FA.out FB.out E2.out (by omega) (by omega) (by omega))
end
end
section
section
open Go.RowKit
attribute [local go_sem ↓] Go.wp_at_zero Go.wp_at_succ
theorem bd_neg {a : DV} (h : End a) : Bdd (negD a) := ⟨negD_ok _, by have := lim_neg a; have := h.2; omega⟩
set_option maxRecDepth 100000 in
set_option maxHeartbeats 1000000 in
theorem rineg_any {w : World} {n1 n2 : Bool} {A B A' B' : Option Addr} {k c m e c' e' : Nat} {d1 d2 : Int} {a b : DV} (ha : Iw w n1 A k c d1 n2 B m e d2 a b A' c' B' e') :
  Calls Tryz.prog 98 #[iv n1 A k c d1 n2 B m e d2] w (IvRes (lo2 (negD a) (negD b)) (hi2 (negD a) (negD b)) w) := by
 obtain ⟨u, hu⟩ : ∃ u, negD a = u := ⟨_, rfl⟩
 obtain ⟨v, hv⟩ : ∃ v, negD b = v := ⟨_, rfl⟩
 have Wu : Hid (Bdd u) := by show Bdd _; rw [← hu]; exact bd_neg ha.wa
 have Wv : Hid (Bdd v) := by show Bdd _; rw [← hv]; exact bd_neg ha.wb
 rw [hu, hv]
 obtain ⟨L, hL⟩ : ∃ L, lo2 u v = L := ⟨_, rfl⟩
 obtain ⟨H, hH⟩ : ∃ H, hi2 u v = H := ⟨_, rfl⟩
 rw [hL, hH]
 have EL := Lib.hid hL; have EH := Lib.hid hH; have Eu := Lib.hid hu; have Ev := Lib.hid hv; clear hL hH hu hv
 have HA := Lib.hid ha; clear ha
 obtain ⟨X0, XZ, XE⟩ := boxes2 w n1 n2 A B k c m e d1 d2
 have HX0 := Lib.hid X0; have HXZ := Lib.hid XZ; have HXE := Lib.hid XE
 clear X0 XZ XE
 go_enter Tryz.func98, Tryz.ntmps98
 go_upto_region 1 with fail
 go_cut [] (fun wx => OneI w a b A' c' B' e' wx)
 case first =>
  obtain ⟨⟨k0, k1, k2, k3, k4, k5⟩, kz⟩ := HX0.out
  go_wp2_with (go_at_call 79; (with_reducible refine (HA.out.nrm _ HXE.out).mono ?_); rintro e1 w1 ⟨rfl, hx⟩; clear k0 k1 k2 k3 k4 k5 kz; obtain ⟨⟨k0, k1, k2, k3, k4, k5⟩, kz⟩ := HX0.out.ext hx; have HX := Lib.hid hx; clear hx)
  go_meet
  exact oneI_of HX0.out HXZ.out HXE.out HX.out
 case rest =>
  clear HX0 HXZ HXE
  obtain ⟨hE, hX0, hXZ⟩ := hcut
  have HE := Lib.hid hE; have HX0 := Lib.hid hX0; have HXZ := Lib.hid hXZ
  clear hE hX0 hXZ
  have HS : Hid (∀ w', Ext wc w' → w'.cell? ⟨w.heap.size, 0, none⟩ = some (.bool a.neg) ∧ w'.cell? ⟨w.heap.size, 1, none⟩ = some (.slice A' (len a.m) c') ∧ w'.cell? ⟨w.heap.size, 2, none⟩ = some (I a.den) ∧ w'.cell? ⟨w.heap.size, 3, none⟩ = some (.bool b.neg) ∧ w'.cell? ⟨w.heap.size, 4, none⟩ = some (.slice B' (len b.m) e') ∧ w'.cell? ⟨w.heap.size, 5, none⟩ = some (I b.den)) := fun w' e => by
   obtain ⟨⟨i0, i1, i2, i3, i4, i5⟩, iz⟩ := HX0.out.ext e
   exact ⟨i0, i1, i2, i3, i4, i5⟩
  have HS2 : Hid (∀ w1 u0 u1 u2 u3 u4 u5, Ext wc w1 → ((((((w1.setCell ⟨w.heap.size + 1, 0, none⟩ u0).setCell ⟨w.heap.size + 1, 1, none⟩ u1).setCell ⟨w.heap.size + 1, 2, none⟩ u2).setCell ⟨w.heap.size + 1, 3, none⟩ u3).setCell ⟨w.heap.size + 1, 4, none⟩ u4).setCell ⟨w.heap.size + 1, 5, none⟩ u5).cell? ⟨w.heap.size, 0, none⟩ = some (.bool a.neg) ∧ ((((((w1.setCell ⟨w.heap.size + 1, 0, none⟩ u0).setCell ⟨w.heap.size + 1, 1, none⟩ u1).setCell ⟨w.heap.size + 1, 2, none⟩ u2).setCell ⟨w.heap.size + 1, 3, none⟩ u3).setCell ⟨w.heap.size + 1, 4, none⟩ u4).setCell ⟨w.heap.size + 1, 5, none⟩ u5).cell? ⟨w.heap.size, 1, none⟩ = some (.slice A' (len a.m) c') ∧ ((((((w1.setCell ⟨w.heap.size + 1, 0, none⟩ u0).setCell ⟨w.heap.size + 1, 1, none⟩ u1).setCell ⟨w.heap.size + 1, 2, none⟩ u2).setCell ⟨w.heap.size + 1, 3, none⟩ u3).setCell ⟨w.heap.size + 1, 4, none⟩ u4).setCell ⟨w.heap.size + 1, 5, none⟩ u5).cell? ⟨w.heap.size, 2, none⟩ = some (I a.den) ∧ ((((((w1.setCell ⟨w.heap.size + 1, 0, none⟩ u0).setCell ⟨w.heap.size + 1, 1, none⟩ u1).setCell ⟨w.heap.size + 1, 2, none⟩ u2).setCell ⟨w.heap.size + 1, 3, none⟩ u3).setCell ⟨w.heap.size + 1, 4, none⟩ u4).setCell ⟨w.heap.size + 1, 5, none⟩ u5).cell? ⟨w.heap.size, 3, none⟩ = some (.bool b.neg) ∧ ((((((w1.setCell ⟨w.heap.size + 1, 0, none⟩ u0).setCell ⟨w.heap.size + 1, 1, none⟩ u1).setCell ⟨w.heap.size + 1, 2, none⟩ u2).setCell ⟨w.heap.size + 1, 3, none⟩ u3).setCell ⟨w.heap.size + 1, 4, none⟩ u4).setCell ⟨w.heap.size + 1, 5, none⟩ u5).cell? ⟨w.heap.size, 4, none⟩ = some (.slice B' (len b.m) e') ∧ ((((((w1.setCell ⟨w.heap.size + 1, 0, none⟩ u0).setCell ⟨w.heap.size + 1, 1, none⟩ u1).setCell ⟨w.heap.size + 1, 2, none⟩ u2).setCell ⟨w.heap.size + 1, 3, none⟩ u3).setCell ⟨w.heap.size + 1, 4, none⟩ u4).setCell ⟨w.heap.size + 1, 5, none⟩ u5).cell? ⟨w.heap.size, 5, none⟩ = some (I b.den)) := fun w1 u0 u1 u2 u3 u4 u5 e => by
   obtain ⟨⟨i0, i1, i2, i3, i4, i5⟩, iz⟩ := (HX0.out.ext e).far6 (g' := w.heap.size + 1) (by omega) u0 u1 u2 u3 u4 u5
   exact ⟨i0, i1, i2, i3, i4, i5⟩
  have hlx := HXZ.out.lt; have hnx := Nat.ne_of_lt hlx; have hq1 : ¬ w.heap.size + 1 + 1 = w.heap.size := (by omega); have hq2 : ¬ w.heap.size = w.heap.size + 1 + 1 := (by omega)
  go_wp2_with fail
  go_region_held3 (fun w' => w'.cell? ⟨w.heap.size, 0, none⟩ = some (.bool a.neg) ∧ w'.cell? ⟨w.heap.size, 1, none⟩ = some (.slice A' (len a.m) c') ∧ w'.cell? ⟨w.heap.size, 2, none⟩ = some (I a.den) ∧ w'.cell? ⟨w.heap.size, 3, none⟩ = some (.bool b.neg) ∧ w'.cell? ⟨w.heap.size, 4, none⟩ = some (.slice B' (len b.m) e') ∧ w'.cell? ⟨w.heap.size, 5, none⟩ = some (I b.den)) (first | with_reducible assumption | exact HS.out _ ex2 | exact HS2.out _ _ _ _ _ _ _ ex2)
   (first
    | (have hg := hx2; clear hg; go_at_call 92; (with_reducible refine (span2 (D1.out.ext ex2) (D2.out.ext ex2) Wu.out Wv.out (S6.new _ _ _ _ _ _ _ _)).mono ?_); rw [EL.out, EH.out]; rintro e1 w3 ⟨A3, c3, B3, k3, rfl, hfa, hfb, hx3⟩; have FA := Lib.hid hfa; have FB := Lib.hid hfb; clear hfa hfb; obtain ⟨⟨r0, r1, r2, r3, r4, r5⟩, rz⟩ := HXZ.out.ext (w' := w3) ex2)
    | (have hg := hx1; clear hg; go_at_call 93; (with_reducible refine (rneg_any (HA.out.dyb.ext (HE.out.trans ex2))).mono ?_); rw [Ev.out]; rintro e1 w2 ⟨A2, c2, rfl, hon, hx2⟩; have D2 := Lib.hid (Dy.of_on hon Wv.out.1 Wv.out.lim (Ext.refl _)); clear hon)
    | (go_at_call 93; (with_reducible refine (rneg_any (HA.out.dya.ext (HE.out.trans ex2))).mono ?_); rw [Eu.out]; rintro e1 w1 ⟨A1, c1, rfl, hon, hx1⟩; have D1 := Lib.hid (Dy.of_on hon Wu.out.1 Wu.out.lim (Ext.refl _)); clear hon))
  all_goals
   have HF := Lib.hid (HE.out.trans (show Ext wc w3 from ex2))
   have hz2 := Ext.size (show Ext wc w2 from ex2)
   go_wp2_with fail
   exact bodyPost_ret (v := ivd L A3 c3 H B3 k3) (by simp [results, Tryz.results98, go_sem, r0, r1, r2, r3, r4, r5]) rfl (IvRes.end6 rfl FA.out FB.out HF.out (by omega) (by (try simp); omega) (by (try simp); omega))
set_option maxRecDepth 100000 in
set_option maxHeartbeats 1000000 in
theorem riadd_any {w : World} {n1 n2 : Bool} {A B A' B' : Option Addr} {k c m e c' e' : Nat} {d1 d2 : Int} {a b : DV} {n3 n4 : Bool} {X Y X' Y' : Option Addr} {p q r s q' s' : Nat} {d3 d4 : Int} {x y : DV} (ha : Iw w n1 A k c d1 n2 B m e d2 a b A' c' B' e') (hb : Iw w n3 X p q d3 n4 Y r s d4 x y X' q' Y' s') :
  Calls Tryz.prog 91 #[iv n1 A k c d1 n2 B m e d2, iv n3 X p q d3 n4 Y r s d4] w (IvRes (lo2 (addD a x) (addD b y)) (hi2 (addD a x) (addD b y)) w) := by
 obtain ⟨u, hu⟩ : ∃ u, addD a x = u := ⟨_, rfl⟩
 obtain ⟨v, hv⟩ : ∃ v, addD b y = v := ⟨_, rfl⟩
 have Wu : Hid (Bdd u) := by show Bdd _; rw [← hu]; exact bd_add ha.wa hb.wa
 have Wv : Hid (Bdd v) := by show Bdd _; rw [← hv]; exact bd_add ha.wb hb.wb
 rw [hu, hv]
 obtain ⟨L, hL⟩ : ∃ L, lo2 u v = L := ⟨_, rfl⟩
 obtain ⟨H, hH⟩ : ∃ H, hi2 u v = H := ⟨_, rfl⟩
 rw [hL, hH]
 have EL := Lib.hid hL; have EH := Lib.hid hH; have Eu := Lib.hid hu; have Ev := Lib.hid hv; clear hL hH hu hv
 have HA := Lib.hid ha; have HB := Lib.hid hb; clear ha hb
 obtain ⟨X0, X1, XZ, XE⟩ := boxes3 w n1 n2 A B k c m e d1 d2 n3 n4 X Y p q r s d3 d4
 have HX0 := Lib.hid X0; have HX1 := Lib.hid X1; have HXZ := Lib.hid XZ; have HXE := Lib.hid XE
 clear X0 X1 XZ XE
 go_enter Tryz.func91, Tryz.ntmps91
 go_upto_region 1 with fail
 go_cut [] (fun wx => TwoI w a b A' c' B' e' x y X' q' Y' s' wx)
 case first =>
  go_region_with (first
   | (go_at_call 79; (with_reducible refine (HA.out.nrm _ (HXE.out.trans ex2)).mono ?_); rintro e1 wa ⟨rfl, hxwa⟩; obtain ⟨⟨ak0, ak1, ak2, ak3, ak4, ak5⟩, akz⟩ := HX0.out.ext (w' := wa) ex2; obtain ⟨⟨al0, al1, al2, al3, al4, al5⟩, alz⟩ := HX1.out.ext (w' := wa) ex2)
   | (go_at_call 79; (with_reducible refine (HB.out.nrm _ (HXE.out.trans ex2)).mono ?_); rintro e1 wb ⟨rfl, hxwb⟩; obtain ⟨⟨bk0, bk1, bk2, bk3, bk4, bk5⟩, bkz⟩ := HX0.out.ext (w' := wb) ex2; obtain ⟨⟨bl0, bl1, bl2, bl3, bl4, bl5⟩, blz⟩ := HX1.out.ext (w' := wb) ex2))
  all_goals
   go_wp2_with fail
   go_meet
   exact twoI_of HX0.out HX1.out HXZ.out HXE.out ex2
 case rest =>
  clear HX0 HX1 HXZ HXE
  obtain ⟨hE, hX0, hX1, hXZ⟩ := hcut
  have HE := Lib.hid hE; have HX0 := Lib.hid hX0; have HX1 := Lib.hid hX1; have HXZ := Lib.hid hXZ
  clear hE hX0 hX1 hXZ
  have HS : Hid (∀ w', Ext wc w' → w'.cell? ⟨w.heap.size, 0, none⟩ = some (.bool a.neg) ∧ w'.cell? ⟨w.heap.size, 1, none⟩ = some (.slice A' (len a.m) c') ∧ w'.cell? ⟨w.heap.size, 2, none⟩ = some (I a.den) ∧ w'.cell? ⟨w.heap.size, 3, none⟩ = some (.bool b.neg) ∧ w'.cell? ⟨w.heap.size, 4, none⟩ = some (.slice B' (len b.m) e') ∧ w'.cell? ⟨w.heap.size, 5, none⟩ = some (I b.den) ∧ w'.cell? ⟨w.heap.size + 1, 0, none⟩ = some (.bool x.neg) ∧ w'.cell? ⟨w.heap.size + 1, 1, none⟩ = some (.slice X' (len x.m) q') ∧ w'.cell? ⟨w.heap.size + 1, 2, none⟩ = some (I x.den) ∧ w'.cell? ⟨w.heap.size + 1, 3, none⟩ = some (.bool y.neg) ∧ w'.cell? ⟨w.heap.size + 1, 4, none⟩ = some (.slice Y' (len y.m) s') ∧ w'.cell? ⟨w.heap.size + 1, 5, none⟩ = some (I y.den)) := fun w' e => by
   obtain ⟨⟨i0, i1, i2, i3, i4, i5⟩, iz⟩ := HX0.out.ext e
   obtain ⟨⟨j0, j1, j2, j3, j4, j5⟩, jz⟩ := HX1.out.ext e
   exact ⟨i0, i1, i2, i3, i4, i5, j0, j1, j2, j3, j4, j5⟩
  have HS2 : Hid (∀ w1 u0 u1 u2 u3 u4 u5, Ext wc w1 → ((((((w1.setCell ⟨w.heap.size + 1 + 1, 0, none⟩ u0).setCell ⟨w.heap.size + 1 + 1, 1, none⟩ u1).setCell ⟨w.heap.size + 1 + 1, 2, none⟩ u2).setCell ⟨w.heap.size + 1 + 1, 3, none⟩ u3).setCell ⟨w.heap.size + 1 + 1, 4, none⟩ u4).setCell ⟨w.heap.size + 1 + 1, 5, none⟩ u5).cell? ⟨w.heap.size, 0, none⟩ = some (.bool a.neg) ∧ ((((((w1.setCell ⟨w.heap.size + 1 + 1, 0, none⟩ u0).setCell ⟨w.heap.size + 1 + 1, 1, none⟩ u1).setCell ⟨w.heap.size + 1 + 1, 2, none⟩ u2).setCell ⟨w.heap.size + 1 + 1, 3, none⟩ u3).setCell ⟨w.heap.size + 1 + 1, 4, none⟩ u4).setCell ⟨w.heap.size + 1 + 1, 5, none⟩ u5).cell? ⟨w.heap.size, 1, none⟩ = some (.slice A' (len a.m) c') ∧ ((((((w1.setCell ⟨w.heap.size + 1 + 1, 0, none⟩ u0).setCell ⟨w.heap.size + 1 + 1, 1, none⟩ u1).setCell ⟨w.heap.size + 1 + 1, 2, none⟩ u2).setCell ⟨w.heap.size + 1 + 1, 3, none⟩ u3).setCell ⟨w.heap.size + 1 + 1, 4, none⟩ u4).setCell ⟨w.heap.size + 1 + 1, 5, none⟩ u5).cell? ⟨w.heap.size, 2, none⟩ = some (I a.den) ∧ ((((((w1.setCell ⟨w.heap.size + 1 + 1, 0, none⟩ u0).setCell ⟨w.heap.size + 1 + 1, 1, none⟩ u1).setCell ⟨w.heap.size + 1 + 1, 2, none⟩ u2).setCell ⟨w.heap.size + 1 + 1, 3, none⟩ u3).setCell ⟨w.heap.size + 1 + 1, 4, none⟩ u4).setCell ⟨w.heap.size + 1 + 1, 5, none⟩ u5).cell? ⟨w.heap.size, 3, none⟩ = some (.bool b.neg) ∧ ((((((w1.setCell ⟨w.heap.size + 1 + 1, 0, none⟩ u0).setCell ⟨w.heap.size + 1 + 1, 1, none⟩ u1).setCell ⟨w.heap.size + 1 + 1, 2, none⟩ u2).setCell ⟨w.heap.size + 1 + 1, 3, none⟩ u3).setCell ⟨w.heap.size + 1 + 1, 4, none⟩ u4).setCell ⟨w.heap.size + 1 + 1, 5, none⟩ u5).cell? ⟨w.heap.size, 4, none⟩ = some (.slice B' (len b.m) e') ∧ ((((((w1.setCell ⟨w.heap.size + 1 + 1, 0, none⟩ u0).setCell ⟨w.heap.size + 1 + 1, 1, none⟩ u1).setCell ⟨w.heap.size + 1 + 1, 2, none⟩ u2).setCell ⟨w.heap.size + 1 + 1, 3, none⟩ u3).setCell ⟨w.heap.size + 1 + 1, 4, none⟩ u4).setCell ⟨w.heap.size + 1 + 1, 5, none⟩ u5).cell? ⟨w.heap.size, 5, none⟩ = some (I b.den) ∧ ((((((w1.setCell ⟨w.heap.size + 1 + 1, 0, none⟩ u0).setCell ⟨w.heap.size + 1 + 1, 1, none⟩ u1).setCell ⟨w.heap.size + 1 + 1, 2, none⟩ u2).setCell ⟨w.heap.size + 1 + 1, 3, none⟩ u3).setCell ⟨w.heap.size + 1 + 1, 4, none⟩ u4).setCell ⟨w.heap.size + 1 + 1, 5, none⟩ u5).cell? ⟨w.heap.size + 1, 0, none⟩ = some (.bool x.neg) ∧ ((((((w1.setCell ⟨w.heap.size + 1 + 1, 0, none⟩ u0).setCell ⟨w.heap.size + 1 + 1, 1, none⟩ u1).setCell ⟨w.heap.size + 1 + 1, 2, none⟩ u2).setCell ⟨w.heap.size + 1 + 1, 3, none⟩ u3).setCell ⟨w.heap.size + 1 + 1, 4, none⟩ u4).setCell ⟨w.heap.size + 1 + 1, 5, none⟩ u5).cell? ⟨w.heap.size + 1, 1, none⟩ = some (.slice X' (len x.m) q') ∧ ((((((w1.setCell ⟨w.heap.size + 1 + 1, 0, none⟩ u0).setCell ⟨w.heap.size + 1 + 1, 1, none⟩ u1).setCell ⟨w.heap.size + 1 + 1, 2, none⟩ u2).setCell ⟨w.heap.size + 1 + 1, 3, none⟩ u3).setCell ⟨w.heap.size + 1 + 1, 4, none⟩ u4).setCell ⟨w.heap.size + 1 + 1, 5, none⟩ u5).cell? ⟨w.heap.size + 1, 2, none⟩ = some (I x.den) ∧ ((((((w1.setCell ⟨w.heap.size + 1 + 1, 0, none⟩ u0).setCell ⟨w.heap.size + 1 + 1, 1, none⟩ u1).setCell ⟨w.heap.size + 1 + 1, 2, none⟩ u2).setCell ⟨w.heap.size + 1 + 1, 3, none⟩ u3).setCell ⟨w.heap.size + 1 + 1, 4, none⟩ u4).setCell ⟨w.heap.size + 1 + 1, 5, none⟩ u5).cell? ⟨w.heap.size + 1, 3, none⟩ = some (.bool y.neg) ∧ ((((((w1.setCell ⟨w.heap.size + 1 + 1, 0, none⟩ u0).setCell ⟨w.heap.size + 1 + 1, 1, none⟩ u1).setCell ⟨w.heap.size + 1 + 1, 2, none⟩ u2).setCell ⟨w.heap.size + 1 + 1, 3, none⟩ u3).setCell ⟨w.heap.size + 1 + 1, 4, none⟩ u4).setCell ⟨w.heap.size + 1 + 1, 5, none⟩ u5).cell? ⟨w.heap.size + 1, 4, none⟩ = some (.slice Y' (len y.m) s') ∧ ((((((w1.setCell ⟨w.heap.size + 1 + 1, 0, none⟩ u0).setCell ⟨w.heap.size + 1 + 1, 1, none⟩ u1).setCell ⟨w.heap.size + 1 + 1, 2, none⟩ u2).setCell ⟨w.heap.size + 1 + 1, 3, none⟩ u3).setCell ⟨w.heap.size + 1 + 1, 4, none⟩ u4).setCell ⟨w.heap.size + 1 + 1, 5, none⟩ u5).cell? ⟨w.heap.size + 1, 5, none⟩ = some (I y.den)) := fun w1 u0 u1 u2 u3 u4 u5 e => by
   obtain ⟨⟨i0, i1, i2, i3, i4, i5⟩, iz⟩ := (HX0.out.ext e).far6 (g' := w.heap.size + 1 + 1) (by omega) u0 u1 u2 u3 u4 u5
   obtain ⟨⟨j0, j1, j2, j3, j4, j5⟩, jz⟩ := (HX1.out.ext e).far6 (g' := w.heap.size + 1 + 1) (by omega) u0 u1 u2 u3 u4 u5
   exact ⟨i0, i1, i2, i3, i4, i5, j0, j1, j2, j3, j4, j5⟩
  have hlx := HXZ.out.lt; have hnx := Nat.ne_of_lt hlx; have hq1 : ¬ w.heap.size + 1 + 1 = w.heap.size := (by omega); have hq2 : ¬ w.heap.size = w.heap.size + 1 + 1 := (by omega)
  go_wp2_with fail
  go_region_held3 (fun w' => w'.cell? ⟨w.heap.size, 0, none⟩ = some (.bool a.neg) ∧ w'.cell? ⟨w.heap.size, 1, none⟩ = some (.slice A' (len a.m) c') ∧ w'.cell? ⟨w.heap.size, 2, none⟩ = some (I a.den) ∧ w'.cell? ⟨w.heap.size, 3, none⟩ = some (.bool b.neg) ∧ w'.cell? ⟨w.heap.size, 4, none⟩ = some (.slice B' (len b.m) e') ∧ w'.cell? ⟨w.heap.size, 5, none⟩ = some (I b.den) ∧ w'.cell? ⟨w.heap.size + 1, 0, none⟩ = some (.bool x.neg) ∧ w'.cell? ⟨w.heap.size + 1, 1, none⟩ = some (.slice X' (len x.m) q') ∧ w'.cell? ⟨w.heap.size + 1, 2, none⟩ = some (I x.den) ∧ w'.cell? ⟨w.heap.size + 1, 3, none⟩ = some (.bool y.neg) ∧ w'.cell? ⟨w.heap.size + 1, 4, none⟩ = some (.slice Y' (len y.m) s') ∧ w'.cell? ⟨w.heap.size + 1, 5, none⟩ = some (I y.den)) (first | with_reducible assumption | exact HS.out _ ex2 | exact HS2.out _ _ _ _ _ _ _ ex2)
   (first
    | (have hg := hx2; clear hg; go_at_call 92; (with_reducible refine (span2 (D1.out.ext ex2) (D2.out.ext ex2) Wu.out Wv.out (S6.new _ _ _ _ _ _ _ _)).mono ?_); rw [EL.out, EH.out]; rintro e1 w3 ⟨A3, c3, B3, k3, rfl, hfa, hfb, hx3⟩; have FA := Lib.hid hfa; have FB := Lib.hid hfb; clear hfa hfb; obtain ⟨⟨r0, r1, r2, r3, r4, r5⟩, rz⟩ := HXZ.out.ext (w' := w3) ex2)
    | (have hg := hx1; clear hg; go_at_call 28; (with_reducible refine (radd_any (HA.out.dyb.ext (HE.out.trans ex2)) (HB.out.dyb.ext (HE.out.trans ex2))).mono ?_); rw [Ev.out]; rintro e1 w2 ⟨A2, c2, rfl, hon, hx2⟩; have D2 := Lib.hid (Dy.of_on hon Wv.out.1 Wv.out.lim (Ext.refl _)); clear hon)
    | (go_at_call 28; (with_reducible refine (radd_any (HA.out.dya.ext (HE.out.trans ex2)) (HB.out.dya.ext (HE.out.trans ex2))).mono ?_); rw [Eu.out]; rintro e1 w1 ⟨A1, c1, rfl, hon, hx1⟩; have D1 := Lib.hid (Dy.of_on hon Wu.out.1 Wu.out.lim (Ext.refl _)); clear hon))
  all_goals
   have HF := Lib.hid (HE.out.trans (show Ext wc w3 from ex2))
   have hz2 := Ext.size (show Ext wc w2 from ex2)
   go_wp2_with fail
   exact bodyPost_ret (v := ivd L A3 c3 H B3 k3) (by simp [results, Tryz.results91, go_sem, r0, r1, r2, r3, r4, r5]) rfl (IvRes.end6 rfl FA.out FB.out HF.out (by omega) (by (try simp); omega) (by (try simp); omega))
end
section
open Go.RowKit
attribute [local go_sem ↓] Go.wp_at_zero Go.wp_at_succ
set_option maxRecDepth 100000 in
set_option maxHeartbeats 1000000 in
theorem rimin_any {w : World} {n1 n2 : Bool} {A B A' B' : Option Addr} {k c m e c' e' : Nat} {d1 d2 : Int} {a b : DV} {n3 n4 : Bool} {X Y X' Y' : Option Addr} {p q r s q' s' : Nat} {d3 d4 : Int} {x y : DV} (ha : Iw w n1 A k c d1 n2 B m e d2 a b A' c' B' e') (hb : Iw w n3 X p q d3 n4 Y r s d4 x y X' q' Y' s') :
  Calls Tryz.prog 101 #[iv n1 A k c d1 n2 B m e d2, iv n3 X p q d3 n4 Y r s d4] w (IvRes (minD a x) (minD b y) w) := by
 have SA := Lib.hid (bd_sub (bd_end ha.wa) (bd_end hb.wa)); have SB := Lib.hid (bd_sub (bd_end ha.wb) (bd_end hb.wb))
 obtain ⟨u, hu⟩ : ∃ u, minD a x = u := ⟨_, rfl⟩
 obtain ⟨v, hv⟩ : ∃ v, minD b y = v := ⟨_, rfl⟩
 rw [hu, hv]
 have Eu := Lib.hid hu; have Ev := Lib.hid hv; clear hu hv
 have HA := Lib.hid ha; have HB := Lib.hid hb; clear ha hb
 obtain ⟨X0, X1, XZ, XE⟩ := boxes3 w n1 n2 A B k c m e d1 d2 n3 n4 X Y p q r s d3 d4
 have HX0 := Lib.hid X0; have HX1 := Lib.hid X1; have HXZ := Lib.hid XZ; have HXE := Lib.hid XE
 clear X0 X1 XZ XE
 go_enter Tryz.func101, Tryz.ntmps101
 go_upto_region 1 with fail
 go_cut [] (fun wx => TwoI w a b A' c' B' e' x y X' q' Y' s' wx)
 case first =>
  go_region_with (first
   | (go_at_call 79; (with_reducible refine (HA.out.nrm _ (HXE.out.trans ex2)).mono ?_); rintro e1 wa ⟨rfl, hxwa⟩; obtain ⟨⟨ak0, ak1, ak2, ak3, ak4, ak5⟩, akz⟩ := HX0.out.ext (w' := wa) ex2; obtain ⟨⟨al0, al1, al2, al3, al4, al5⟩, alz⟩ := HX1.out.ext (w' := wa) ex2)
   | (go_at_call 79; (with_reducible refine (HB.out.nrm _ (HXE.out.trans ex2)).mono ?_); rintro e1 wb ⟨rfl, hxwb⟩; obtain ⟨⟨bk0, bk1, bk2, bk3, bk4, bk5⟩, bkz⟩ := HX0.out.ext (w' := wb) ex2; obtain ⟨⟨bl0, bl1, bl2, bl3, bl4, bl5⟩, blz⟩ := HX1.out.ext (w' := wb) ex2))
  all_goals
   go_wp2_with fail
   go_meet
   exact twoI_of HX0.out HX1.out HXZ.out HXE.out ex2
 case rest =>
  clear HX0 HX1 HXZ HXE
  obtain ⟨hE, hX0, hX1, hXZ⟩ := hcut
  have HE := Lib.hid hE; have HX0 := Lib.hid hX0; have HX1 := Lib.hid hX1; have HXZ := Lib.hid hXZ
  clear hE hX0 hX1 hXZ
  have HS : Hid (∀ w', Ext wc w' → w'.cell? ⟨w.heap.size, 0, none⟩ = some (.bool a.neg) ∧ w'.cell? ⟨w.heap.size, 1, none⟩ = some (.slice A' (len a.m) c') ∧ w'.cell? ⟨w.heap.size, 2, none⟩ = some (I a.den) ∧ w'.cell? ⟨w.heap.size, 3, none⟩ = some (.bool b.neg) ∧ w'.cell? ⟨w.heap.size, 4, none⟩ = some (.slice B' (len b.m) e') ∧ w'.cell? ⟨w.heap.size, 5, none⟩ = some (I b.den) ∧ w'.cell? ⟨w.heap.size + 1, 0, none⟩ = some (.bool x.neg) ∧ w'.cell? ⟨w.heap.size + 1, 1, none⟩ = some (.slice X' (len x.m) q') ∧ w'.cell? ⟨w.heap.size + 1, 2, none⟩ = some (I x.den) ∧ w'.cell? ⟨w.heap.size + 1, 3, none⟩ = some (.bool y.neg) ∧ w'.cell? ⟨w.heap.size + 1, 4, none⟩ = some (.slice Y' (len y.m) s') ∧ w'.cell? ⟨w.heap.size + 1, 5, none⟩ = some (I y.den)) := fun w' e => by
   obtain ⟨⟨i0, i1, i2, i3, i4, i5⟩, iz⟩ := HX0.out.ext e
   obtain ⟨⟨j0, j1, j2, j3, j4, j5⟩, jz⟩ := HX1.out.ext e
   exact ⟨i0, i1, i2, i3, i4, i5, j0, j1, j2, j3, j4, j5⟩
  have HS2 : Hid (∀ w1 u0 u1 u2 u3 u4 u5, Ext wc w1 → ((((((w1.setCell ⟨w.heap.size + 1 + 1, 0, none⟩ u0).setCell ⟨w.heap.size + 1 + 1, 1, none⟩ u1).setCell ⟨w.heap.size + 1 + 1, 2, none⟩ u2).setCell ⟨w.heap.size + 1 + 1, 3, none⟩ u3).setCell ⟨w.heap.size + 1 + 1, 4, none⟩ u4).setCell ⟨w.heap.size + 1 + 1, 5, none⟩ u5).cell? ⟨w.heap.size, 0, none⟩ = some (.bool a.neg) ∧ ((((((w1.setCell ⟨w.heap.size + 1 + 1, 0, none⟩ u0).setCell ⟨w.heap.size + 1 + 1, 1, none⟩ u1).setCell ⟨w.heap.size + 1 + 1, 2, none⟩ u2).setCell ⟨w.heap.size + 1 + 1, 3, none⟩ u3).setCell ⟨w.heap.size + 1 + 1, 4, none⟩ u4).setCell ⟨w.heap.size + 1 + 1, 5, none⟩ u5).cell? ⟨w.heap.size, 1, none⟩ = some (.slice A' (len a.m) c') ∧ ((((((w1.setCell ⟨w.heap.size + 1 + 1, 0, none⟩ u0).setCell ⟨w.heap.size + 1 + 1, 1, none⟩ u1).setCell ⟨w.heap.size + 1 + 1, 2, none⟩ u2).setCell ⟨w.heap.size + 1 + 1, 3, none⟩ u3).setCell ⟨w.heap.size + 1 + 1, 4, none⟩ u4).setCell ⟨w.heap.size + 1 + 1, 5, none⟩ u5).cell? ⟨w.heap.size, 2, none⟩ = some (I a.den) ∧ ((((((w1.setCell ⟨w.heap.size + 1 + 1, 0, none⟩ u0).setCell ⟨w.heap.size + 1 + 1, 1, none⟩ u1).setCell ⟨w.heap.size + 1 + 1, 2, none⟩ u2).setCell ⟨w.heap.size + 1 + 1, 3, none⟩ u3).setCell ⟨w.heap.size + 1 + 1, 4, none⟩ u4).setCell ⟨w.heap.size + 1 + 1, 5, none⟩ u5).cell? ⟨w.heap.size, 3, none⟩ = some (.bool b.neg) ∧ ((((((w1.setCell ⟨w.heap.size + 1 + 1, 0, none⟩ u0).setCell ⟨w.heap.size + 1 + 1, 1, none⟩ u1).setCell ⟨w.heap.size + 1 + 1, 2, none⟩ u2).setCell ⟨w.heap.size + 1 + 1, 3, none⟩ u3).setCell ⟨w.heap.size + 1 + 1, 4, none⟩ u4).setCell ⟨w.heap.size + 1 + 1, 5, none⟩ u5).cell? ⟨w.heap.size, 4, none⟩ = some (.slice B' (len b.m) e') ∧ ((((((w1.setCell ⟨w.heap.size + 1 + 1, 0, none⟩ u0).setCell ⟨w.heap.size + 1 + 1, 1, none⟩ u1).setCell ⟨w.heap.size + 1 + 1, 2, none⟩ u2).setCell ⟨w.heap.size + 1 + 1, 3, none⟩ u3).setCell ⟨w.heap.size + 1 + 1, 4, none⟩ u4).setCell ⟨w.heap.size + 1 + 1, 5, none⟩ u5).cell? ⟨w.heap.size, 5, none⟩ = some (I b.den) ∧ ((((((w1.setCell ⟨w.heap.size + 1 + 1, 0, none⟩ u0).setCell ⟨w.heap.size + 1 + 1, 1, none⟩ u1).setCell ⟨w.heap.size + 1 + 1, 2, none⟩ u2).setCell ⟨w.heap.size + 1 + 1, 3, none⟩ u3).setCell ⟨w.heap.size + 1 + 1, 4, none⟩ u4).setCell ⟨w.heap.size + 1 + 1, 5, none⟩ u5).cell? ⟨w.heap.size + 1, 0, none⟩ = some (.bool x.neg) ∧ ((((((w1.setCell ⟨w.heap.size + 1 + 1, 0, none⟩ u0).setCell ⟨w.heap.size + 1 + 1, 1, none⟩ u1).setCell ⟨w.heap.size + 1 + 1, 2, none⟩ u2).setCell ⟨w.heap.size + 1 + 1, 3, none⟩ u3).setCell ⟨w.heap.size + 1 + 1, 4, none⟩ u4).setCell ⟨w.heap.size + 1 + 1, 5, none⟩ u5).cell? ⟨w.heap.size + 1, 1, none⟩ = some (.slice X' (len x.m) q') ∧ ((((((w1.setCell ⟨w.heap.size + 1 + 1, 0, none⟩ u0).setCell ⟨w.heap.size + 1 + 1, 1, none⟩ u1).setCell ⟨w.heap.size + 1 + 1, 2, none⟩ u2).setCell ⟨w.heap.size + 1 + 1, 3, none⟩ u3).setCell ⟨w.heap.size + 1 + 1, 4, none⟩ u4).setCell ⟨w.heap.size + 1 + 1, 5, none⟩ u5).cell? ⟨w.heap.size + 1, 2, none⟩ = some (I x.den) ∧ ((((((w1.setCell ⟨w.heap.size + 1 + 1, 0, none⟩ u0).setCell ⟨w.heap.size + 1 + 1, 1, none⟩ u1).setCell ⟨w.heap.size + 1 + 1, 2, none⟩ u2).setCell ⟨w.heap.size + 1 + 1, 3, none⟩ u3).setCell ⟨w.heap.size + 1 + 1, 4, none⟩ u4).setCell ⟨w.heap.size + 1 + 1, 5, none⟩ u5).cell? ⟨w.heap.size + 1, 3, none⟩ = some (.bool y.neg) ∧ ((((((w1.setCell ⟨w.heap.size + 1 + 1, 0, none⟩ u0).setCell ⟨w.heap.size + 1 + 1, 1, none⟩ u1).setCell ⟨w.heap.size + 1 + 1, 2, none⟩ u2).setCell ⟨w.heap.size + 1 + 1, 3, none⟩ u3).setCell ⟨w.heap.size + 1 + 1, 4, none⟩ u4).setCell ⟨w.heap.size + 1 + 1, 5, none⟩ u5).cell? ⟨w.heap.size + 1, 4, none⟩ = some (.slice Y' (len y.m) s') ∧ ((((((w1.setCell ⟨w.heap.size + 1 + 1, 0, none⟩ u0).setCell ⟨w.heap.size + 1 + 1, 1, none⟩ u1).setCell ⟨w.heap.size + 1 + 1, 2, none⟩ u2).setCell ⟨w.heap.size + 1 + 1, 3, none⟩ u3).setCell ⟨w.heap.size + 1 + 1, 4, none⟩ u4).setCell ⟨w.heap.size + 1 + 1, 5, none⟩ u5).cell? ⟨w.heap.size + 1, 5, none⟩ = some (I y.den)) := fun w1 u0 u1 u2 u3 u4 u5 e => by
   obtain ⟨⟨i0, i1, i2, i3, i4, i5⟩, iz⟩ := (HX0.out.ext e).far6 (g' := w.heap.size + 1 + 1) (by omega) u0 u1 u2 u3 u4 u5
   obtain ⟨⟨j0, j1, j2, j3, j4, j5⟩, jz⟩ := (HX1.out.ext e).far6 (g' := w.heap.size + 1 + 1) (by omega) u0 u1 u2 u3 u4 u5
   exact ⟨i0, i1, i2, i3, i4, i5, j0, j1, j2, j3, j4, j5⟩
  have hlx := HXZ.out.lt; have hnx := Nat.ne_of_lt hlx; have hq1 : ¬ w.heap.size + 1 + 1 = w.heap.size := (by omega); have hq2 : ¬ w.heap.size = w.heap.size + 1 + 1 := (by omega)
  go_wp2_with fail
  go_region_held3 (fun w' => w'.cell? ⟨w.heap.size, 0, none⟩ = some (.bool a.neg) ∧ w'.cell? ⟨w.heap.size, 1, none⟩ = some (.slice A' (len a.m) c') ∧ w'.cell? ⟨w.heap.size, 2, none⟩ = some (I a.den) ∧ w'.cell? ⟨w.heap.size, 3, none⟩ = some (.bool b.neg) ∧ w'.cell? ⟨w.heap.size, 4, none⟩ = some (.slice B' (len b.m) e') ∧ w'.cell? ⟨w.heap.size, 5, none⟩ = some (I b.den) ∧ w'.cell? ⟨w.heap.size + 1, 0, none⟩ = some (.bool x.neg) ∧ w'.cell? ⟨w.heap.size + 1, 1, none⟩ = some (.slice X' (len x.m) q') ∧ w'.cell? ⟨w.heap.size + 1, 2, none⟩ = some (I x.den) ∧ w'.cell? ⟨w.heap.size + 1, 3, none⟩ = some (.bool y.neg) ∧ w'.cell? ⟨w.heap.size + 1, 4, none⟩ = some (.slice Y' (len y.m) s') ∧ w'.cell? ⟨w.heap.size + 1, 5, none⟩ = some (I y.den)) (first | with_reducible assumption | exact HS.out _ ex2 | exact HS2.out _ _ _ _ _ _ _ ex2)
   (first
    | (have hg := hx1; clear hg; go_at_call 157; (with_reducible refine (rmin_any (HA.out.dyb.ext (HE.out.trans ex2)) (HB.out.dyb.ext (HE.out.trans ex2)) SB.out.1 SB.out.2).mono ?_); rw [Ev.out]; rintro e1 w2 ⟨A2, c2, rfl, hon, hx2⟩; have F2 := Lib.hid hon.fr; clear hon; obtain ⟨⟨r0, r1, r2, r3, r4, r5⟩, rz⟩ := HXZ.out.ext (w' := w2) ex2)
    | (go_at_call 157; (with_reducible refine (rmin_any (HA.out.dya.ext (HE.out.trans ex2)) (HB.out.dya.ext (HE.out.trans ex2)) SA.out.1 SA.out.2).mono ?_); rw [Eu.out]; rintro e1 w1 ⟨A1, c1, rfl, hon, hx1⟩; have F1 := Lib.hid hon.fr; have z1 := hx1.size; clear hon))
  all_goals
   have HF := Lib.hid (HE.out.trans (show Ext wc w2 from ex2))
   have G1 := Lib.hid (F1.out.ext (show Ext w1 w2 from ex2))
   have hz1 := Ext.size (show Ext wc w1 from ex2)
   have f1 := F1.out; have f2 := F2.out; (try simp only [World.size_drew] at f1 f2 z1)
   go_wp2_with fail
   exact bodyPost_ret (v := ivd u A1 c1 v A2 c2) (by simp [results, Tryz.results101, go_sem, r0, r1, r2, r3, r4, r5]) rfl (IvRes.end6 rfl G1.out F2.out HF.out (by omega) (by (try simp); omega) (by (try simp); omega))
set_option maxRecDepth 100000 in
set_option maxHeartbeats 1000000 in
theorem rimax_any {w : World} {n1 n2 : Bool} {A B A' B' : Option Addr} {k c m e c' e' : Nat} {d1 d2 : Int} {a b : DV} {n3 n4 : Bool} {X Y X' Y' : Option Addr} {p q r s q' s' : Nat} {d3 d4 : Int} {x y : DV} (ha : Iw w n1 A k c d1 n2 B m e d2 a b A' c' B' e') (hb : Iw w n3 X p q d3 n4 Y r s d4 x y X' q' Y' s') :
  Calls Tryz.prog 102 #[iv n1 A k c d1 n2 B m e d2, iv n3 X p q d3 n4 Y r s d4] w (IvRes (maxD a x) (maxD b y) w) := by
 have SA := Lib.hid (bd_sub (bd_end ha.wa) (bd_end hb.wa)); have SB := Lib.hid (bd_sub (bd_end ha.wb) (bd_end hb.wb))
 obtain ⟨u, hu⟩ : ∃ u, maxD a x = u := ⟨_, rfl⟩
 obtain ⟨v, hv⟩ : ∃ v, maxD b y = v := ⟨_, rfl⟩
 rw [hu, hv]
 have Eu := Lib.hid hu; have Ev := Lib.hid hv; clear hu hv
 have HA := Lib.hid ha; have HB := Lib.hid hb; clear ha hb
 obtain ⟨X0, X1, XZ, XE⟩ := boxes3 w n1 n2 A B k c m e d1 d2 n3 n4 X Y p q r s d3 d4
 have HX0 := Lib.hid X0; have HX1 := Lib.hid X1; have HXZ := Lib.hid XZ; have HXE := Lib.hid XE
 clear X0 X1 XZ XE
 go_enter Tryz.func102, Tryz.ntmps102
 go_upto_region 1 with fail
 go_cut [] (fun wx => TwoI w a b A' c' B' e' x y X' q' Y' s' wx)
 case first =>
  go_region_with (first
   | (go_at_call 79; (with_reducible refine (HA.out.nrm _ (HXE.out.trans ex2)).mono ?_); rintro e1 wa ⟨rfl, hxwa⟩; obtain ⟨⟨ak0, ak1, ak2, ak3, ak4, ak5⟩, akz⟩ := HX0.out.ext (w' := wa) ex2; obtain ⟨⟨al0, al1, al2, al3, al4, al5⟩, alz⟩ := HX1.out.ext (w' := wa) ex2)
   | (go_at_call 79; (with_reducible refine (HB.out.nrm _ (HXE.out.trans ex2)).mono ?_); rintro e1 wb ⟨rfl, hxwb⟩; obtain ⟨⟨bk0, bk1, bk2, bk3, bk4, bk5⟩, bkz⟩ := HX0.out.ext (w' := wb) ex2; obtain ⟨⟨bl0, bl1, bl2, bl3, bl4, bl5⟩, blz⟩ := HX1.out.ext (w' := wb) ex2))
  all_goals
   go_wp2_with fail
   go_meet
   exact twoI_of HX0.out HX1.out HXZ.out HXE.out ex2
 case rest =>
  clear HX0 HX1 HXZ HXE
  obtain ⟨hE, hX0, hX1, hXZ⟩ := hcut
  have HE := Lib.hid hE; have HX0 := Lib.hid hX0; have HX1 := Lib.hid hX1; have HXZ := Lib.hid hXZ
  clear hE hX0 hX1 hXZ
  have HS : Hid (∀ w', Ext wc w' → w'.cell? ⟨w.heap.size, 0, none⟩ = some (.bool a.neg) ∧ w'.cell? ⟨w.heap.size, 1, none⟩ = some (.slice A' (len a.m) c') ∧ w'.cell? ⟨w.heap.size, 2, none⟩ = some (I a.den) ∧ w'.cell? ⟨w.heap.size, 3, none⟩ = some (.bool b.neg) ∧ w'.cell? ⟨w.heap.size, 4, none⟩ = some (.slice B' (len b.m) e') ∧ w'.cell? ⟨w.heap.size, 5, none⟩ = some (I b.den) ∧ w'.cell? ⟨w.heap.size + 1, 0, none⟩ = some (.bool x.neg) ∧ w'.cell? ⟨w.heap.size + 1, 1, none⟩ = some (.slice X' (len x.m) q') ∧ w'.cell? ⟨w.heap.size + 1, 2, none⟩ = some (I x.den) ∧ w'.cell? ⟨w.heap.size + 1, 3, none⟩ = some (.bool y.neg) ∧ w'.cell? ⟨w.heap.size + 1, 4, none⟩ = some (.slice Y' (len y.m) s') ∧ w'.cell? ⟨w.heap.size + 1, 5, none⟩ = some (I y.den)) := fun w' e => by
   obtain ⟨⟨i0, i1, i2, i3, i4, i5⟩, iz⟩ := HX0.out.ext e
   obtain ⟨⟨j0, j1, j2, j3, j4, j5⟩, jz⟩ := HX1.out.ext e
   exact ⟨i0, i1, i2, i3, i4, i5, j0, j1, j2, j3, j4, j5⟩
  have HS2 : Hid (∀ w1 u0 u1 u2 u3 u4 u5, Ext wc w1 → ((((((w1.setCell ⟨w.heap.size + 1 + 1, 0, none⟩ u0).setCell ⟨w.heap.size + 1 + 1, 1, none⟩ u1).setCell ⟨w.heap.size + 1 + 1, 2, none⟩ u2).setCell ⟨w.heap.size + 1 + 1, 3, none⟩ u3).setCell ⟨w.heap.size + 1 + 1, 4, none⟩ u4).setCell ⟨w.heap.size + 1 + 1, 5, none⟩ u5).cell? ⟨w.heap.size, 0, none⟩ = some (.bool a.neg) ∧ ((((((w1.setCell ⟨w.heap.size + 1 + 1, 0, none⟩ u0).setCell ⟨w.heap.size + 1 + 1, 1, none⟩ u1).setCell ⟨w.heap.size + 1 + 1, 2, none⟩ u2).setCell ⟨w.heap.size + 1 + 1, 3, none⟩ u3).setCell ⟨w.heap.size + 1 + 1, 4, none⟩ u4).setCell ⟨w.heap.size + 1 + 1, 5, none⟩ u5).cell? ⟨w.heap.size, 1, none⟩ = some (.slice A' (len a.m) c') ∧ ((((((w1.setCell ⟨w.heap.size + 1 + 1, 0, none⟩ u0).setCell ⟨w.heap.size + 1 + 1, 1, none⟩ u1).setCell ⟨w.heap.size + 1 + 1, 2, none⟩ u2).setCell ⟨w.heap.size + 1 + 1, 3, none⟩ u3).setCell ⟨w.heap.size + 1 + 1, 4, none⟩ u4).setCell ⟨w.heap.size + 1 + 1, 5, none⟩ u5).cell? ⟨w.heap.size, 2, none⟩ = some (I a.den) ∧ ((((((w1.setCell ⟨w.heap.size + 1 + 1, 0, none⟩ u0).setCell ⟨w.heap.size + 1 + 1, 1, none⟩ u1).setCell ⟨w.heap.size + 1 + 1, 2, none⟩ u2).setCell ⟨w.heap.size + 1 + 1, 3, none⟩ u3).setCell ⟨w.heap.size + 1 + 1, 4, none⟩ u4).setCell ⟨w.heap.size + 1 + 1, 5, none⟩ u5).cell? ⟨w.heap.size, 3, none⟩ = some (.bool b.neg) ∧ ((((((w1.setCell ⟨w.heap.size + 1 + 1, 0, none⟩ u0).setCell ⟨w.heap.size + 1 + 1, 1, none⟩ u1).setCell ⟨w.heap.size + 1 + 1, 2, none⟩ u2).setCell ⟨w.heap.size + 1 + 1, 3, none⟩ u3).setCell ⟨w.heap.size + 1 + 1, 4, none⟩ u4).setCell ⟨w.heap.size + 1 + 1, 5, none⟩ u5).cell? ⟨w.heap.size, 4, none⟩ = some (.slice B' (len b.m) e') ∧ ((((((w1.setCell ⟨w.heap.size + 1 + 1, 0, none⟩ u0).setCell ⟨w.heap.size + 1 + 1, 1, none⟩ u1).setCell ⟨w.heap.size + 1 + 1, 2, none⟩ u2).setCell ⟨w.heap.size + 1 + 1, 3, none⟩ u3).setCell ⟨w.heap.size + 1 + 1, 4, none⟩ u4).setCell ⟨w.heap.size + 1 + 1, 5, none⟩ u5).cell? ⟨w.heap.size, 5, none⟩ = some (I b.den) ∧ ((((((w1.setCell ⟨w.heap.size + 1 + 1, 0, none⟩ u0).setCell ⟨w.heap.size + 1 + 1, 1, none⟩ u1).setCell ⟨w.heap.size + 1 + 1, 2, none⟩ u2).setCell ⟨w.heap.size + 1 + 1, 3, none⟩ u3).setCell ⟨w.heap.size + 1 + 1, 4, none⟩ u4).setCell ⟨w.heap.size + 1 + 1, 5, none⟩ u5).cell? ⟨w.heap.size + 1, 0, none⟩ = some (.bool x.neg) ∧ ((((((w1.setCell ⟨w.heap.size + 1 + 1, 0, none⟩ u0).setCell ⟨w.heap.size + 1 + 1, 1, none⟩ u1).setCell ⟨w.heap.size + 1 + 1, 2, none⟩ u2).setCell ⟨w.heap.size + 1 + 1, 3, none⟩ u3).setCell ⟨w.heap.size + 1 + 1, 4, none⟩ u4).setCell ⟨w.heap.size + 1 + 1, 5, none⟩ u5).cell? ⟨w.heap.size + 1, 1, none⟩ = some (.slice X' (len x.m) q') ∧ ((((((w1.setCell ⟨w.heap.size + 1 + 1, 0, none⟩ u0).setCell ⟨w.heap.size + 1 + 1, 1, none⟩ u1).setCell ⟨w.heap.size + 1 + 1, 2, none⟩ u2).setCell ⟨w.heap.size + 1 + 1, 3, none⟩ u3).setCell ⟨w.heap.size + 1 + 1, 4, none⟩ u4).setCell ⟨w.heap.size + 1 + 1, 5, none⟩ u5).cell? ⟨w.heap.size + 1, 2, none⟩ = some (I x.den) ∧ ((((((w1.setCell ⟨w.heap.size + 1 + 1, 0, none⟩ u0).setCell ⟨w.heap.size + 1 + 1, 1, none⟩ u1).setCell ⟨w.heap.size + 1 + 1, 2, none⟩ u2).setCell ⟨w.heap.size + 1 + 1, 3, none⟩ u3).setCell ⟨w.heap.size + 1 + 1, 4, none⟩ u4).setCell ⟨w.heap.size + 1 + 1, 5, none⟩ u5).cell? ⟨w.heap.size + 1, 3, none⟩ = some (.bool y.neg) ∧ ((((((w1.setCell ⟨w.heap.size + 1 + 1, 0, none⟩ u0).setCell ⟨w.heap.size + 1 + 1, 1, none⟩ u1).setCell ⟨w.heap.size + 1 + 1, 2, none⟩ u2).setCell ⟨w.heap.size + 1 + 1, 3, none⟩ u3).setCell ⟨w.heap.size + 1 + 1, 4, none⟩ u4).setCell ⟨w.heap.size + 1 + 1, 5, none⟩ u5).cell? ⟨w.heap.size + 1, 4, none⟩ = some (.slice Y' (len y.m) s') ∧ ((((((w1.setCell ⟨w.heap.size + 1 + 1, 0, none⟩ u0).setCell ⟨w.heap.size + 1 + 1, 1, none⟩ u1).setCell ⟨w.heap.size + 1 + 1, 2, none⟩ u2).setCell ⟨w.heap.size + 1 + 1, 3, none⟩ u3).setCell ⟨w.heap.size + 1 + 1, 4, none⟩ u4).setCell ⟨w.heap.size + 1 + 1, 5, none⟩ u5).cell? ⟨w.heap.size + 1, 5, none⟩ = some (I y.den)) := fun w1 u0 u1 u2 u3 u4 u5 e => by
   obtain ⟨⟨i0, i1, i2, i3, i4, i5⟩, iz⟩ := (HX0.out.ext e).far6 (g' := w.heap.size + 1 + 1) (by omega) u0 u1 u2 u3 u4 u5
   obtain ⟨⟨j0, j1, j2, j3, j4, j5⟩, jz⟩ := (HX1.out.ext e).far6 (g' := w.heap.size + 1 + 1) (by omega) u0 u1 u2 u3 u4 u5
   exact ⟨i0, i1, i2, i3, i4, i5, j0, j1, j2, j3, j4, j5⟩
  have hlx := HXZ.out.lt; have hnx := Nat.ne_of_lt hlx; have hq1 : ¬ w.heap.size + 1 + 1 = w.heap.size := (by omega); have hq2 : ¬ w.heap.size = w.heap.size + 1 + 1 := (by omega)
  go_wp2_with fail
  go_region_held3 (fun w' => w'.cell? ⟨w.heap.size, 0, none⟩ = some (.bool a.neg) ∧ w'.cell? ⟨w.heap.size, 1, none⟩ = some (.slice A' (len a.m) c') ∧ w'.cell? ⟨w.heap.size, 2, none⟩ = some (I a.den) ∧ w'.cell? ⟨w.heap.size, 3, none⟩ = some (.bool b.neg) ∧ w'.cell? ⟨w.heap.size, 4, none⟩ = some (.slice B' (len b.m) e') ∧ w'.cell? ⟨w.heap.size, 5, none⟩ = some (I b.den) ∧ w'.cell? ⟨w.heap.size + 1, 0, none⟩ = some (.bool x.neg) ∧ w'.cell? ⟨w.heap.size + 1, 1, none⟩ = some (.slice X' (len x.m) q') ∧ w'.cell? ⟨w.heap.size + 1, 2, none⟩ = some (I x.den) ∧ w'.cell? ⟨w.heap.size + 1, 3, none⟩ = some (.bool y.neg) ∧ w'.cell? ⟨w.heap.size + 1, 4, none⟩ = some (.slice Y' (len y.m) s') ∧ w'.cell? ⟨w.heap.size + 1, 5, none⟩ = some (I y.den)) (first | with_reducible assumption | exact HS.out _ ex2 | exact HS2.out _ _ _ _ _ _ _ ex2)
   (first
    | (have hg := hx1; clear hg; go_at_call 158; (with_reducible refine (rmax_any (HA.out.dyb.ext (HE.out.trans ex2)) (HB.out.dyb.ext (HE.out.trans ex2)) SB.out.1 SB.out.2).mono ?_); rw [Ev.out]; rintro e1 w2 ⟨A2, c2, rfl, hon, hx2⟩; have F2 := Lib.hid hon.fr; clear hon; obtain ⟨⟨r0, r1, r2, r3, r4, r5⟩, rz⟩ := HXZ.out.ext (w' := w2) ex2)
    | (go_at_call 158; (with_reducible refine (rmax_any (HA.out.dya.ext (HE.out.trans ex2)) (HB.out.dya.ext (HE.out.trans ex2)) SA.out.1 SA.out.2).mono ?_); rw [Eu.out]; rintro e1 w1 ⟨A1, c1, rfl, hon, hx1⟩; have F1 := Lib.hid hon.fr; have z1 := hx1.size; clear hon))
  all_goals
   have HF := Lib.hid (HE.out.trans (show Ext wc w2 from ex2))
   have G1 := Lib.hid (F1.out.ext (show Ext w1 w2 from ex2))
   have hz1 := Ext.size (show Ext wc w1 from ex2)
   have f1 := F1.out; have f2 := F2.out; (try simp only [World.size_drew] at f1 f2 z1)
   go_wp2_with fail
   exact bodyPost_ret (v := ivd u A1 c1 v A2 c2) (by simp [results, Tryz.results102, go_sem, r0, r1, r2, r3, r4, r5]) rfl (IvRes.end6 rfl G1.out F2.out HF.out (by omega) (by (try simp); omega) (by (try simp); omega))
end
section
open Go.RowKit
attribute [local go_sem ↓] Go.wp_at_zero Go.wp_at_succ
end
section
open Go.RowKit
attribute [local go_sem ↓] Go.wp_at_zero Go.wp_at_succ
set_option maxRecDepth 100000 in
set_option maxHeartbeats 1000000 in
theorem risub_any {w : World} {n1 n2 : Bool} {A B A' B' : Option Addr} {k c m e c' e' : Nat} {d1 d2 : Int} {a b : DV} {n3 n4 : Bool} {X Y X' Y' : Option Addr} {p q r s q' s' : Nat} {d3 d4 : Int} {x y : DV} (ha : Iw w n1 A k c d1 n2 B m e d2 a b A' c' B' e') (hb : Iw w n3 X p q d3 n4 Y r s d4 x y X' q' Y' s') (ll : len x.m ≤ 1048575) (lm : len y.m ≤ 1048575) :
  Calls Tryz.prog 97 #[iv n1 A k c d1 n2 B m e d2, iv n3 X p q d3 n4 Y r s d4] w (IvRes (lo2 (addD a (lo2 (negD x) (negD y))) (addD b (hi2 (negD x) (negD y)))) (hi2 (addD a (lo2 (negD x) (negD y))) (addD b (hi2 (negD x) (negD y)))) w) := by
 obtain ⟨P, hP⟩ : ∃ P, lo2 (negD x) (negD y) = P := ⟨_, rfl⟩
 obtain ⟨Q, hQ⟩ : ∃ Q, hi2 (negD x) (negD y) = Q := ⟨_, rfl⟩
 have nx : End (negD x) := ⟨negD_ok _, by have := lim_neg x; omega⟩
 have ny : End (negD y) := ⟨negD_ok _, by have := lim_neg y; omega⟩
 have WP : Hid (End P) := by show End _; rw [← hP]; exact sz_min (P := End) nx ny
 have WQ : Hid (End Q) := by show End _; rw [← hQ]; exact sz_max (P := End) nx ny
 have QL : Hid (P.q ≤ Q.q) := by show _ ≤ _; rw [← hP, ← hQ]; exact lo2_le nx.1 ny.1
 rw [hP, hQ]
 obtain ⟨L, hL⟩ : ∃ L, lo2 (addD a P) (addD b Q) = L := ⟨_, rfl⟩
 obtain ⟨H, hH⟩ : ∃ H, hi2 (addD a P) (addD b Q) = H := ⟨_, rfl⟩
 rw [hL, hH]
 have EL := Lib.hid hL; have EH := Lib.hid hH; have EP := Lib.hid hP; have EQ := Lib.hid hQ; clear hL hH hP hQ nx ny ll lm
 have HA := Lib.hid ha; have HB := Lib.hid hb; clear ha hb
 obtain ⟨X0, X1, XZ, XE⟩ := boxes3 w n1 n2 A B k c m e d1 d2 n3 n4 X Y p q r s d3 d4
 have HX0 := Lib.hid X0; have HX1 := Lib.hid X1; have HXZ := Lib.hid XZ; have HE := Lib.hid XE
 clear X0 X1 XE XZ
 generalize hWc : ((w.alloc (.cells #[.bool n1, .slice A k c, I d1, .bool n2, .slice B m e, I d2] 58)).alloc (.cells #[.bool n3, .slice X p q, I d3, .bool n4, .slice Y r s, I d4] 58)).alloc (.cells #[.bool false, .slice none 0 0, I 0, .bool false, .slice none 0 0, I 0] 58) = wc at HX0 HX1 HXZ HE
 go_enter Tryz.func97, Tryz.ntmps97
 go_upto_region 1 with fail
 (try rw [hWc])
 clear hWc
 have HS : Hid (∀ w', Ext wc w' → w'.cell? ⟨w.heap.size, 0, none⟩ = some (.bool n1) ∧ w'.cell? ⟨w.heap.size, 1, none⟩ = some (.slice A k c) ∧ w'.cell? ⟨w.heap.size, 2, none⟩ = some (I d1) ∧ w'.cell? ⟨w.heap.size, 3, none⟩ = some (.bool n2) ∧ w'.cell? ⟨w.heap.size, 4, none⟩ = some (.slice B m e) ∧ w'.cell? ⟨w.heap.size, 5, none⟩ = some (I d2) ∧ w'.cell? ⟨w.heap.size + 1, 0, none⟩ = some (.bool n3) ∧ w'.cell? ⟨w.heap.size + 1, 1, none⟩ = some (.slice X p q) ∧ w'.cell? ⟨w.heap.size + 1, 2, none⟩ = some (I d3) ∧ w'.cell? ⟨w.heap.size + 1, 3, none⟩ = some (.bool n4) ∧ w'.cell? ⟨w.heap.size + 1, 4, none⟩ = some (.slice Y r s) ∧ w'.cell? ⟨w.heap.size + 1, 5, none⟩ = some (I d4)) := fun w' e => by
  obtain ⟨⟨i0, i1, i2, i3, i4, i5⟩, iz⟩ := HX0.out.ext e
  obtain ⟨⟨j0, j1, j2, j3, j4, j5⟩, jz⟩ := HX1.out.ext e
  exact ⟨i0, i1, i2, i3, i4, i5, j0, j1, j2, j3, j4, j5⟩
 have HS2 : Hid (∀ w1 u0 u1 u2 u3 u4 u5, Ext wc w1 → ((((((w1.setCell ⟨w.heap.size + 1 + 1, 0, none⟩ u0).setCell ⟨w.heap.size + 1 + 1, 1, none⟩ u1).setCell ⟨w.heap.size + 1 + 1, 2, none⟩ u2).setCell ⟨w.heap.size + 1 + 1, 3, none⟩ u3).setCell ⟨w.heap.size + 1 + 1, 4, none⟩ u4).setCell ⟨w.heap.size + 1 + 1, 5, none⟩ u5).cell? ⟨w.heap.size, 0, none⟩ = some (.bool n1) ∧ ((((((w1.setCell ⟨w.heap.size + 1 + 1, 0, none⟩ u0).setCell ⟨w.heap.size + 1 + 1, 1, none⟩ u1).setCell ⟨w.heap.size + 1 + 1, 2, none⟩ u2).setCell ⟨w.heap.size + 1 + 1, 3, none⟩ u3).setCell ⟨w.heap.size + 1 + 1, 4, none⟩ u4).setCell ⟨w.heap.size + 1 + 1, 5, none⟩ u5).cell? ⟨w.heap.size, 1, none⟩ = some (.slice A k c) ∧ ((((((w1.setCell ⟨w.heap.size + 1 + 1, 0, none⟩ u0).setCell ⟨w.heap.size + 1 + 1, 1, none⟩ u1).setCell ⟨w.heap.size + 1 + 1, 2, none⟩ u2).setCell ⟨w.heap.size + 1 + 1, 3, none⟩ u3).setCell ⟨w.heap.size + 1 + 1, 4, none⟩ u4).setCell ⟨w.heap.size + 1 + 1, 5, none⟩ u5).cell? ⟨w.heap.size, 2, none⟩ = some (I d1) ∧ ((((((w1.setCell ⟨w.heap.size + 1 + 1, 0, none⟩ u0).setCell ⟨w.heap.size + 1 + 1, 1, none⟩ u1).setCell ⟨w.heap.size + 1 + 1, 2, none⟩ u2).setCell ⟨w.heap.size + 1 + 1, 3, none⟩ u3).setCell ⟨w.heap.size + 1 + 1, 4, none⟩ u4).setCell ⟨w.heap.size + 1 + 1, 5, none⟩ u5).cell? ⟨w.heap.size, 3, none⟩ = some (.bool n2) ∧ ((((((w1.setCell ⟨w.heap.size + 1 + 1, 0, none⟩ u0).setCell ⟨w.heap.size + 1 + 1, 1, none⟩ u1).setCell ⟨w.heap.size + 1 + 1, 2, none⟩ u2).setCell ⟨w.heap.size + 1 + 1, 3, none⟩ u3).setCell ⟨w.heap.size + 1 + 1, 4, none⟩ u4).setCell ⟨w.heap.size + 1 + 1, 5, none⟩ u5).cell? ⟨w.heap.size, 4, none⟩ = some (.slice B m e) ∧ ((((((w1.setCell ⟨w.heap.size + 1 + 1, 0, none⟩ u0).setCell ⟨w.heap.size + 1 + 1, 1, none⟩ u1).setCell ⟨w.heap.size + 1 + 1, 2, none⟩ u2).setCell ⟨w.heap.size + 1 + 1, 3, none⟩ u3).setCell ⟨w.heap.size + 1 + 1, 4, none⟩ u4).setCell ⟨w.heap.size + 1 + 1, 5, none⟩ u5).cell? ⟨w.heap.size, 5, none⟩ = some (I d2) ∧ ((((((w1.setCell ⟨w.heap.size + 1 + 1, 0, none⟩ u0).setCell ⟨w.heap.size + 1 + 1, 1, none⟩ u1).setCell ⟨w.heap.size + 1 + 1, 2, none⟩ u2).setCell ⟨w.heap.size + 1 + 1, 3, none⟩ u3).setCell ⟨w.heap.size + 1 + 1, 4, none⟩ u4).setCell ⟨w.heap.size + 1 + 1, 5, none⟩ u5).cell? ⟨w.heap.size + 1, 0, none⟩ = some (.bool n3) ∧ ((((((w1.setCell ⟨w.heap.size + 1 + 1, 0, none⟩ u0).setCell ⟨w.heap.size + 1 + 1, 1, none⟩ u1).setCell ⟨w.heap.size + 1 + 1, 2, none⟩ u2).setCell ⟨w.heap.size + 1 + 1, 3, none⟩ u3).setCell ⟨w.heap.size + 1 + 1, 4, none⟩ u4).setCell ⟨w.heap.size + 1 + 1, 5, none⟩ u5).cell? ⟨w.heap.size + 1, 1, none⟩ = some (.slice X p q) ∧ ((((((w1.setCell ⟨w.heap.size + 1 + 1, 0, none⟩ u0).setCell ⟨w.heap.size + 1 + 1, 1, none⟩ u1).setCell ⟨w.heap.size + 1 + 1, 2, none⟩ u2).setCell ⟨w.heap.size + 1 + 1, 3, none⟩ u3).setCell ⟨w.heap.size + 1 + 1, 4, none⟩ u4).setCell ⟨w.heap.size + 1 + 1, 5, none⟩ u5).cell? ⟨w.heap.size + 1, 2, none⟩ = some (I d3) ∧ ((((((w1.setCell ⟨w.heap.size + 1 + 1, 0, none⟩ u0).setCell ⟨w.heap.size + 1 + 1, 1, none⟩ u1).setCell ⟨w.heap.size + 1 + 1, 2, none⟩ u2).setCell ⟨w.heap.size + 1 + 1, 3, none⟩ u3).setCell ⟨w.heap.size + 1 + 1, 4, none⟩ u4).setCell ⟨w.heap.size + 1 + 1, 5, none⟩ u5).cell? ⟨w.heap.size + 1, 3, none⟩ = some (.bool n4) ∧ ((((((w1.setCell ⟨w.heap.size + 1 + 1, 0, none⟩ u0).setCell ⟨w.heap.size + 1 + 1, 1, none⟩ u1).setCell ⟨w.heap.size + 1 + 1, 2, none⟩ u2).setCell ⟨w.heap.size + 1 + 1, 3, none⟩ u3).setCell ⟨w.heap.size + 1 + 1, 4, none⟩ u4).setCell ⟨w.heap.size + 1 + 1, 5, none⟩ u5).cell? ⟨w.heap.size + 1, 4, none⟩ = some (.slice Y r s) ∧ ((((((w1.setCell ⟨w.heap.size + 1 + 1, 0, none⟩ u0).setCell ⟨w.heap.size + 1 + 1, 1, none⟩ u1).setCell ⟨w.heap.size + 1 + 1, 2, none⟩ u2).setCell ⟨w.heap.size + 1 + 1, 3, none⟩ u3).setCell ⟨w.heap.size + 1 + 1, 4, none⟩ u4).setCell ⟨w.heap.size + 1 + 1, 5, none⟩ u5).cell? ⟨w.heap.size + 1, 5, none⟩ = some (I d4)) := fun w1 u0 u1 u2 u3 u4 u5 e => by
  obtain ⟨⟨i0, i1, i2, i3, i4, i5⟩, iz⟩ := (HX0.out.ext e).far6 (g' := w.heap.size + 1 + 1) (by omega) u0 u1 u2 u3 u4 u5
  obtain ⟨⟨j0, j1, j2, j3, j4, j5⟩, jz⟩ := (HX1.out.ext e).far6 (g' := w.heap.size + 1 + 1) (by omega) u0 u1 u2 u3 u4 u5
  exact ⟨i0, i1, i2, i3, i4, i5, j0, j1, j2, j3, j4, j5⟩
 have hlx := HXZ.out.lt; have hnx := Nat.ne_of_lt hlx; have hq1 : ¬ w.heap.size + 1 + 1 = w.heap.size := (by omega); have hq2 : ¬ w.heap.size = w.heap.size + 1 + 1 := (by omega)
 go_region_held3 (fun w' => w'.cell? ⟨w.heap.size, 0, none⟩ = some (.bool n1) ∧ w'.cell? ⟨w.heap.size, 1, none⟩ = some (.slice A k c) ∧ w'.cell? ⟨w.heap.size, 2, none⟩ = some (I d1) ∧ w'.cell? ⟨w.heap.size, 3, none⟩ = some (.bool n2) ∧ w'.cell? ⟨w.heap.size, 4, none⟩ = some (.slice B m e) ∧ w'.cell? ⟨w.heap.size, 5, none⟩ = some (I d2) ∧ w'.cell? ⟨w.heap.size + 1, 0, none⟩ = some (.bool n3) ∧ w'.cell? ⟨w.heap.size + 1, 1, none⟩ = some (.slice X p q) ∧ w'.cell? ⟨w.heap.size + 1, 2, none⟩ = some (I d3) ∧ w'.cell? ⟨w.heap.size + 1, 3, none⟩ = some (.bool n4) ∧ w'.cell? ⟨w.heap.size + 1, 4, none⟩ = some (.slice Y r s) ∧ w'.cell? ⟨w.heap.size + 1, 5, none⟩ = some (I d4)) (first | with_reducible assumption | exact HS.out _ ex2 | exact HS2.out _ _ _ _ _ _ _ ex2)
  (first
   | (have hg := hx1; clear hg; go_at_call 91; (with_reducible refine (riadd_any (HA.out.ext (HE.out.trans ex2)) (NI.out.ext ex2)).mono ?_); rw [EL.out, EH.out]; rintro e1 w2 ⟨A2, c2, B2, k2, rfl, hfa, hfb, hx2⟩; have FA := Lib.hid hfa; have FB := Lib.hid hfb; clear hfa hfb; obtain ⟨⟨r0, r1, r2, r3, r4, r5⟩, rz⟩ := HXZ.out.ext (w' := w2) ex2)
   | (go_at_call 98; (with_reducible refine (rineg_any (HB.out.ext (HE.out.trans ex2))).mono ?_); rw [EP.out, EQ.out]; rintro e1 w1 ⟨A1, c1, B1, k1, rfl, hfa, hfb, hx1⟩; have NI := Lib.hid (IvRes.at_ hfa hfb WP.out WQ.out QL.out (Ext.refl _)); clear hfa hfb))
 all_goals
  have HF := Lib.hid (HE.out.trans (show Ext wc w2 from ex2))
  have hz2 := Ext.size (show Ext wc w1 from ex2)
  go_wp2_with fail
  exact bodyPost_ret (v := ivd L A2 c2 H B2 k2) (by simp [results, Tryz.results97, go_sem, r0, r1, r2, r3, r4, r5]) rfl (IvRes.end6 rfl FA.out FB.out HF.out (by omega) (by (try simp); omega) (by (try simp); omega))
end
section
open Go.RowKit
attribute [local go_sem ↓] Go.wp_at_zero Go.wp_at_succ
set_option maxRecDepth 100000 in
set_option maxHeartbeats 1000000 in
theorem rinside_any {w : World} {n1 n2 : Bool} {A B A' B' : Option Addr} {k c m e c' e' : Nat} {d1 d2 : Int} {a b : DV} {n3 n4 : Bool} {X Y X' Y' : Option Addr} {p q r s q' s' : Nat} {d3 d4 : Int} {x y : DV} (ha : Iw w n1 A k c d1 n2 B m e d2 a b A' c' B' e') (hb : Iw w n3 X p q d3 n4 Y r s d4 x y X' q' Y' s') :
  Calls Tryz.prog 38 #[iv n1 A k c d1 n2 B m e d2, iv n3 X p q d3 n4 Y r s d4] w fun e' w' => e' = .returned (.bool (insB a b x y)) ∧ Ext w w' := by
 obtain ⟨z, hz⟩ : ∃ z, conB x y b = z := ⟨_, rfl⟩
 cases hv : conB x y a with
 | true =>
  rw [insB_t hv hz]
  have Ev := Lib.hid hv; have Ez := Lib.hid hz; clear hv hz
  have LA : Hid (len a.m ≤ 4194304) := (bd_end ha.wa).2; have LB : Hid (len b.m ≤ 4194304) := (bd_end ha.wb).2; have HA := Lib.hid ha; have HB := Lib.hid hb; clear ha hb
  obtain ⟨X0, X1, XE⟩ := boxesI w n1 n2 A B k c m e d1 d2 n3 n4 X Y p q r s d3 d4
  have HX0 := Lib.hid X0; have HX1 := Lib.hid X1; have HXE := Lib.hid XE
  clear X0 X1 XE
  go_enter Tryz.func38, Tryz.ntmps38
  go_upto_region 1 with fail
  go_cut [] (fun wx => InI w a b A' c' B' e' n3 X p q d3 n4 Y r s d4 wx)
  case first =>
   obtain ⟨⟨k0, k1, k2, k3, k4, k5⟩, kz⟩ := HX0.out
   go_wp2_with (go_at_call 79; (with_reducible refine (HA.out.nrm _ HXE.out).mono ?_); rintro e1 w1 ⟨rfl, hx⟩; clear k0 k1 k2 k3 k4 k5 kz; obtain ⟨⟨k0, k1, k2, k3, k4, k5⟩, kz⟩ := HX0.out.ext hx; have HX := Lib.hid hx; clear hx)
   go_meet
   exact inI_of HX0.out HX1.out HXE.out HX.out
  case rest =>
   clear HX0 HX1 HXE
   obtain ⟨hE, hX0, hX1⟩ := hcut
   have HE := Lib.hid hE; have HX0 := Lib.hid hX0; have HX1 := Lib.hid hX1
   clear hE hX0 hX1
   obtain ⟨⟨k0, k1, k2, k3, k4, k5⟩, kz⟩ := HX0.out
   obtain ⟨⟨l0, l1, l2, l3, l4, l5⟩, lz⟩ := HX1.out
   go_wp2_with (first
    | (have hg := X1; clear hg; go_at_call 36; (with_reducible refine (ricontains_any (HB.out.ext (HE.out.trans X1.out)) (HA.out.dyb.ext (HE.out.trans X1.out)) LB.out).mono ?_); rw [Ez.out]; rintro e2 w2 ⟨rfl, hx⟩; have X2 := Lib.hid (X1.out.trans hx); clear hx)
    | (go_at_call 36; (with_reducible refine (ricontains_any (HB.out.ext (HE.out.trans (Ext.refl _))) (HA.out.dya.ext (HE.out.trans (Ext.refl _))) LA.out).mono ?_); rw [Ev.out]; rintro e1 w1 ⟨rfl, hx⟩; have X1 := Lib.hid hx; clear k0 k1 k2 k3 k4 k5 kz l0 l1 l2 l3 l4 l5 lz; obtain ⟨⟨k0, k1, k2, k3, k4, k5⟩, kz⟩ := HX0.out.ext hx; obtain ⟨⟨l0, l1, l2, l3, l4, l5⟩, lz⟩ := HX1.out.ext hx; clear hx))
   go_ret
   exact ⟨rfl, HE.out.trans X2.out⟩
 | false =>
  rw [insB_f hv]
  have Ev := Lib.hid hv; have Ez := Lib.hid hz; clear hv hz
  have LA : Hid (len a.m ≤ 4194304) := (bd_end ha.wa).2; have LB : Hid (len b.m ≤ 4194304) := (bd_end ha.wb).2; have HA := Lib.hid ha; have HB := Lib.hid hb; clear ha hb
  obtain ⟨X0, X1, XE⟩ := boxesI w n1 n2 A B k c m e d1 d2 n3 n4 X Y p q r s d3 d4
  have HX0 := Lib.hid X0; have HX1 := Lib.hid X1; have HXE := Lib.hid XE
  clear X0 X1 XE
  go_enter Tryz.func38, Tryz.ntmps38
  go_upto_region 1 with fail
  go_cut [] (fun wx => InI w a b A' c' B' e' n3 X p q d3 n4 Y r s d4 wx)
  case first =>
   obtain ⟨⟨k0, k1, k2, k3, k4, k5⟩, kz⟩ := HX0.out
   go_wp2_with (go_at_call 79; (with_reducible refine (HA.out.nrm _ HXE.out).mono ?_); rintro e1 w1 ⟨rfl, hx⟩; clear k0 k1 k2 k3 k4 k5 kz; obtain ⟨⟨k0, k1, k2, k3, k4, k5⟩, kz⟩ := HX0.out.ext hx; have HX := Lib.hid hx; clear hx)
   go_meet
   exact inI_of HX0.out HX1.out HXE.out HX.out
  case rest =>
   clear HX0 HX1 HXE
   obtain ⟨hE, hX0, hX1⟩ := hcut
   have HE := Lib.hid hE; have HX0 := Lib.hid hX0; have HX1 := Lib.hid hX1
   clear hE hX0 hX1
   obtain ⟨⟨k0, k1, k2, k3, k4, k5⟩, kz⟩ := HX0.out
   obtain ⟨⟨l0, l1, l2, l3, l4, l5⟩, lz⟩ := HX1.out
   go_wp2_with (go_at_call 36; (with_reducible refine (ricontains_any (HB.out.ext (HE.out.trans (Ext.refl _))) (HA.out.dya.ext (HE.out.trans (Ext.refl _))) LA.out).mono ?_); rw [Ev.out]; rintro e1 w1 ⟨rfl, hx⟩; have X1 := Lib.hid hx; clear k0 k1 k2 k3 k4 k5 kz l0 l1 l2 l3 l4 l5 lz; obtain ⟨⟨k0, k1, k2, k3, k4, k5⟩, kz⟩ := HX0.out.ext hx; obtain ⟨⟨l0, l1, l2, l3, l4, l5⟩, lz⟩ := HX1.out.ext hx; clear hx)
   go_ret
   exact ⟨rfl, HE.out.trans X1.out⟩
end
section
open Go.RowKit
attribute [local go_sem ↓] Go.wp_at_zero Go.wp_at_succ
theorem bd_abs {a : DV} (h : End a) : Bdd (absD a) := ⟨absD_ok _, by have h1 := len_mono (mkD_m_le false a.m a.den); have h2 : (absD a).m = (mkD false a.m a.den).m := rfl; rw [← h2] at h1; have := h.2; omega⟩
theorem zero_new {w w1 : World} {t : TypeId} (hx : Ext (w.alloc (.cells #[.bool false, .slice none 0 0, I 0, .bool false, .slice none 0 0, I 0] t)) w1) : B6 w1 w.heap.size (.bool false) (.slice none 0 0) (I 0) (.bool false) (.slice none 0 0) (I 0) := (B6.new w (.bool false) (.slice none 0 0) (I 0) (.bool false) (.slice none 0 0) (I 0) t).ext hx
theorem zero_newd {w w1 : World} {t : TypeId} (hx : Ext (w.alloc (.cells #[.bool false, .slice none 0 0, I 0, .bool false, .slice none 0 0, I 0] t)).drew w1) : B6 w1 w.heap.size (.bool false) (.slice none 0 0) (I 0) (.bool false) (.slice none 0 0) (I 0) := (B6.new w (.bool false) (.slice none 0 0) (I 0) (.bool false) (.slice none 0 0) (I 0) t).ext ((Ext.drew _).trans hx)
theorem zero_newa {w w1 : World} {t : TypeId} {o : Obj} (hx : Ext ((w.alloc (.cells #[.bool false, .slice none 0 0, I 0, .bool false, .slice none 0 0, I 0] t)).alloc o) w1) : B6 w1 w.heap.size (.bool false) (.slice none 0 0) (I 0) (.bool false) (.slice none 0 0) (I 0) := (B6.new w (.bool false) (.slice none 0 0) (I 0) (.bool false) (.slice none 0 0) (I 0) t).ext ((Ext.alloc _ _).trans hx)
def AbR (w wc wx : World) (p : Nat) (L H : DV) : Prop := ∃ A c B e, Ext wc wx ∧ B6 wx p (.bool L.neg) (.slice A (len L.m) c) (I L.den) (.bool H.neg) (.slice B (len H.m) e) (I H.den) ∧ w.heap.size + 1 < p ∧ Off wx (w.heap.size + 2) p (w.heap.size + 1) A (len L.m) c (dg L.m) ∧ Off wx (w.heap.size + 2) p (w.heap.size + 1) B (len H.m) e (dg H.m)
theorem off_of {w w3 : World} {bs p n c : Nat} {A : Option Addr} {f : Nat → Nat} (h : Fr w3 bs A n c f) (hb : w.heap.size + 2 ≤ bs) (hp : p < bs ∨ w3.heap.size ≤ p) : Off w3 (w.heap.size + 2) p (w.heap.size + 1) A n c f := by
 refine ⟨h.mono hb, fun hn a ha => ?_⟩
 have h1 := h.2.2 hn a ha
 obtain ⟨b, o, e, hb', _⟩ := h.rd hn
 rw [e] at ha; injection ha with ha; subst ha
 have h1' : bs ≤ b := h1
 exact ⟨by show b ≠ p; omega, by show b ≠ _; omega⟩
theorem abr_new {w wc w3 : World} {bs : Nat} {L H : DV} {A B : Option Addr} {c e : Nat} {t : TypeId} (hx : Ext wc w3) (fa : Fr w3 bs A (len L.m) c (dg L.m)) (fb : Fr w3 bs B (len H.m) e (dg H.m)) (hb : w.heap.size + 2 ≤ bs) (hs : bs ≤ w3.heap.size) :
  AbR w wc (w3.alloc (.cells #[.bool L.neg, .slice A (len L.m) c, I L.den, .bool H.neg, .slice B (len H.m) e, I H.den] t)) w3.heap.size L H :=
 ⟨A, c, B, e, hx.trans (Ext.alloc _ _), B6.new w3 _ _ _ _ _ _ t, by omega, (off_of fa hb (.inr (Nat.le_refl _))).ext (Ext.alloc _ _), (off_of fb hb (.inr (Nat.le_refl _))).ext (Ext.alloc _ _)⟩
theorem abr_set {w wc w3 : World} {bs p : Nat} {L H : DV} {A B : Option Addr} {c e : Nat} {v0 v1 v2 v3 v4 v5 : Value} (hx : Ext wc w3) (hp : B6 w3 p v0 v1 v2 v3 v4 v5) (hpw : wc.heap.size ≤ p) (fa : Fr w3 bs A (len L.m) c (dg L.m)) (fb : Fr w3 bs B (len H.m) e (dg H.m)) (hb : w.heap.size + 2 ≤ bs) (hw : w.heap.size + 2 ≤ wc.heap.size) (hs : p < bs) :
  AbR w wc ((((((w3.setCell ⟨p, 0, none⟩ (.bool L.neg)).setCell ⟨p, 1, none⟩ (.slice A (len L.m) c)).setCell ⟨p, 2, none⟩ (I L.den)).setCell ⟨p, 3, none⟩ (.bool H.neg)).setCell ⟨p, 4, none⟩ (.slice B (len H.m) e)).setCell ⟨p, 5, none⟩ (I H.den)) p L H :=
 ⟨A, c, B, e, ext_set6 hx hpw _ _ _ _ _ _, hp.set6 _ _ _ _ _ _, by omega, ((((((off_of fa hb (.inl hs)).setp _ _).setp _ _).setp _ _).setp _ _).setp _ _).setp _ _, ((((((off_of fb hb (.inl hs)).setp _ _).setp _ _).setp _ _).setp _ _).setp _ _).setp _ _⟩
theorem abs_end {a b : DV} {w w3 : World} {A B : Option Addr} {c k p : Nat} {v : Value} {t0 t1 t2 u0 u1 u2 u3 u4 u5 : Value} (hv : v = ivd a A c b B k) (ha : Fr w3 (w.heap.size + 2) A (len a.m) c (dg a.m)) (hA : len a.m = 0) (hb : Off w3 (w.heap.size + 2) p (w.heap.size + 1) B (len b.m) k (dg b.m)) (hx : Ext w w3) (hp : w.heap.size ≤ p) :
  IvRes a b w (.returned v) (((((((((w3.setCell ⟨p, 0, none⟩ t0).setCell ⟨p, 1, none⟩ t1).setCell ⟨p, 2, none⟩ t2).setCell ⟨w.heap.size + 1, 0, none⟩ u0).setCell ⟨w.heap.size + 1, 1, none⟩ u1).setCell ⟨w.heap.size + 1, 2, none⟩ u2).setCell ⟨w.heap.size + 1, 3, none⟩ u3).setCell ⟨w.heap.size + 1, 4, none⟩ u4).setCell ⟨w.heap.size + 1, 5, none⟩ u5) := by
 subst hv
 refine ⟨A, c, B, k, rfl, ?_, ?_, ext_set6 (ext_set3 hx hp _ _ _) (by omega) _ _ _ _ _ _⟩
 ·refine ⟨?_, ha.2.1, ?_⟩
  ·rw [hA]; exact fun h => absurd h (Nat.lt_irrefl 0)
  ·rw [hA]; exact fun h => absurd h (Nat.lt_irrefl 0)
 ·have o := ((((((hb.set3p t0 t1 t2).setq 0 u0).setq 1 u1).setq 2 u2).setq 3 u3).setq 4 u4).setq 5 u5
  exact o.1.mono (by omega)
theorem S6.ext {w w' : World} {g : Nat} {v0 v1 v2 v3 v4 v5 : Value} (h : S6 w g v0 v1 v2 v3 v4 v5) (x : Ext w w') : S6 w' g v0 v1 v2 v3 v4 v5 := by
 obtain ⟨h0, h1, h2, h3, h4, h5⟩ := h
 have hl := World.block_lt_of_cell? w _ h0
 have o := x.old.1
 exact ⟨(o _ _ hl).trans h0, (o _ _ hl).trans h1, (o _ _ hl).trans h2, (o _ _ hl).trans h3, (o _ _ hl).trans h4, (o _ _ hl).trans h5⟩
theorem S6.new1 (w : World) (o : Obj) (v0 v1 v2 v3 v4 v5 : Value) (t : TypeId) : S6 ((w.alloc o).alloc (.cells #[v0, v1, v2, v3, v4, v5] t)) (w.heap.size + 1) v0 v1 v2 v3 v4 v5 := by
 have h := S6.new (w.alloc o) v0 v1 v2 v3 v4 v5 t
 rw [World.size_alloc] at h
 exact h
set_option maxRecDepth 100000 in
set_option maxHeartbeats 1000000 in
theorem riabs_false {w : World} {n1 n2 : Bool} {A B A' B' : Option Addr} {k c m e c' e' : Nat} {d1 d2 : Int} {a b : DV} (ha : Iw w n1 A k c d1 n2 B m e d2 a b A' c' B' e') (hcon : conB a b DV.zero = false) :
  Calls Tryz.prog 103 #[iv n1 A k c d1 n2 B m e d2] w (IvRes (lo2 (absD a) (absD b)) (hi2 (absD a) (absD b)) w) := by
 obtain ⟨u, hu⟩ : ∃ u, absD a = u := ⟨_, rfl⟩
 obtain ⟨v, hv⟩ : ∃ v, absD b = v := ⟨_, rfl⟩
 have Wu : Hid (Bdd u) := by show Bdd _; rw [← hu]; exact bd_abs ha.wa
 have Wv : Hid (Bdd v) := by show Bdd _; rw [← hv]; exact bd_abs ha.wb
 rw [hu, hv]
 obtain ⟨L, hL⟩ : ∃ L, lo2 u v = L := ⟨_, rfl⟩
 obtain ⟨H, hH⟩ : ∃ H, hi2 u v = H := ⟨_, rfl⟩
 rw [hL, hH]
 have EL := Lib.hid hL; have EH := Lib.hid hH; have Eu := Lib.hid hu; have Ev := Lib.hid hv; clear hL hH hu hv
 have HCO := Lib.hid hcon; clear hcon
 have HN := Lib.hid (iv_ok ha.ra ha.sa ha.wa ha.rb ha.sb ha.wb ha.le)
 have HA := Lib.hid ha; clear ha
 obtain ⟨X0, XZ, XE⟩ := boxes2 w n1 n2 A B k c m e d1 d2
 have HX0 := Lib.hid X0; have HXZ := Lib.hid XZ; have HXE := Lib.hid XE
 clear X0 XZ XE
 go_enter Tryz.func103, Tryz.ntmps103
 go_upto_region 1 with fail
 go_cut [] (fun wx => OneI w a b A' c' B' e' wx)
 case first =>
  obtain ⟨⟨k0, k1, k2, k3, k4, k5⟩, kz⟩ := HX0.out
  go_wp2_with (go_at_call 79; (with_reducible refine (HA.out.nrm _ HXE.out).mono ?_); rintro e1 w1 ⟨rfl, hx⟩; clear k0 k1 k2 k3 k4 k5 kz; obtain ⟨⟨k0, k1, k2, k3, k4, k5⟩, kz⟩ := HX0.out.ext hx; have HX := Lib.hid hx; clear hx)
  go_meet
  exact oneI_of HX0.out HXZ.out HXE.out HX.out
 case rest =>
  clear HX0 HXZ HXE
  obtain ⟨hE, hX0, hXZ⟩ := hcut
  have HE := Lib.hid hE; have HX0 := Lib.hid hX0; have HXZ := Lib.hid hXZ
  clear hE hX0 hXZ
  have HS : Hid (∀ w', Ext wc w' → w'.cell? ⟨w.heap.size, 0, none⟩ = some (.bool a.neg) ∧ w'.cell? ⟨w.heap.size, 1, none⟩ = some (.slice A' (len a.m) c') ∧ w'.cell? ⟨w.heap.size, 2, none⟩ = some (I a.den) ∧ w'.cell? ⟨w.heap.size, 3, none⟩ = some (.bool b.neg) ∧ w'.cell? ⟨w.heap.size, 4, none⟩ = some (.slice B' (len b.m) e') ∧ w'.cell? ⟨w.heap.size, 5, none⟩ = some (I b.den)) := fun w' e => by
   obtain ⟨⟨i0, i1, i2, i3, i4, i5⟩, iz⟩ := HX0.out.ext e
   exact ⟨i0, i1, i2, i3, i4, i5⟩
  have hwc := HXZ.out.lt
  have HS2 : Hid (∀ w1 p u0 u1 u2 u3 u4 u5, Ext wc w1 → wc.heap.size ≤ p → ((((((w1.setCell ⟨p, 0, none⟩ u0).setCell ⟨p, 1, none⟩ u1).setCell ⟨p, 2, none⟩ u2).setCell ⟨p, 3, none⟩ u3).setCell ⟨p, 4, none⟩ u4).setCell ⟨p, 5, none⟩ u5).cell? ⟨w.heap.size, 0, none⟩ = some (.bool a.neg) ∧ ((((((w1.setCell ⟨p, 0, none⟩ u0).setCell ⟨p, 1, none⟩ u1).setCell ⟨p, 2, none⟩ u2).setCell ⟨p, 3, none⟩ u3).setCell ⟨p, 4, none⟩ u4).setCell ⟨p, 5, none⟩ u5).cell? ⟨w.heap.size, 1, none⟩ = some (.slice A' (len a.m) c') ∧ ((((((w1.setCell ⟨p, 0, none⟩ u0).setCell ⟨p, 1, none⟩ u1).setCell ⟨p, 2, none⟩ u2).setCell ⟨p, 3, none⟩ u3).setCell ⟨p, 4, none⟩ u4).setCell ⟨p, 5, none⟩ u5).cell? ⟨w.heap.size, 2, none⟩ = some (I a.den) ∧ ((((((w1.setCell ⟨p, 0, none⟩ u0).setCell ⟨p, 1, none⟩ u1).setCell ⟨p, 2, none⟩ u2).setCell ⟨p, 3, none⟩ u3).setCell ⟨p, 4, none⟩ u4).setCell ⟨p, 5, none⟩ u5).cell? ⟨w.heap.size, 3, none⟩ = some (.bool b.neg) ∧ ((((((w1.setCell ⟨p, 0, none⟩ u0).setCell ⟨p, 1, none⟩ u1).setCell ⟨p, 2, none⟩ u2).setCell ⟨p, 3, none⟩ u3).setCell ⟨p, 4, none⟩ u4).setCell ⟨p, 5, none⟩ u5).cell? ⟨w.heap.size, 4, none⟩ = some (.slice B' (len b.m) e') ∧ ((((((w1.setCell ⟨p, 0, none⟩ u0).setCell ⟨p, 1, none⟩ u1).setCell ⟨p, 2, none⟩ u2).setCell ⟨p, 3, none⟩ u3).setCell ⟨p, 4, none⟩ u4).setCell ⟨p, 5, none⟩ u5).cell? ⟨w.heap.size, 5, none⟩ = some (I b.den)) := fun w1 p u0 u1 u2 u3 u4 u5 e hp => by
   obtain ⟨⟨i0, i1, i2, i3, i4, i5⟩, iz⟩ := (HX0.out.ext e).far6 (g' := p) (by omega) u0 u1 u2 u3 u4 u5
   exact ⟨i0, i1, i2, i3, i4, i5⟩
  go_upto_region 2 with fail
  go_cut [3] (fun s3 wx => ∃ p, s3 = .pointer (some ⟨p, 0, none⟩) ∧ Hid (AbR w wc wx p L H))
  case first =>
   clear HX0 HXZ HN HCO
   go_region_held3 (fun w' => w'.cell? ⟨w.heap.size, 0, none⟩ = some (.bool a.neg) ∧ w'.cell? ⟨w.heap.size, 1, none⟩ = some (.slice A' (len a.m) c') ∧ w'.cell? ⟨w.heap.size, 2, none⟩ = some (I a.den) ∧ w'.cell? ⟨w.heap.size, 3, none⟩ = some (.bool b.neg) ∧ w'.cell? ⟨w.heap.size, 4, none⟩ = some (.slice B' (len b.m) e') ∧ w'.cell? ⟨w.heap.size, 5, none⟩ = some (I b.den)) (first | with_reducible assumption | exact HS.out _ ex2 | exact HS2.out _ _ _ _ _ _ _ _ ex2 (by omega))
    (first
     | (have hg := hx2; clear hg; go_at_call 92; (first | (with_reducible refine (span2 (D1.out.ext ex2) (D2.out.ext ex2) Wu.out Wv.out (S6.new _ _ _ _ _ _ _ _)).mono ?_) | (with_reducible refine (span2 (D1.out.ext ex2) (D2.out.ext ex2) Wu.out Wv.out (S6.ext (S6.new _ _ _ _ _ _ _ _) (Ext.alloc _ _))).mono ?_) | (with_reducible refine (span2 (D1.out.ext ex2) (D2.out.ext ex2) Wu.out Wv.out (S6.new1 _ _ _ _ _ _ _ _ _)).mono ?_)); rw [EL.out, EH.out]; rintro e1 w3 ⟨A3, c3, B3, k3, rfl, hfa, hfb, hx3⟩; have FA := Lib.hid hfa; have FB := Lib.hid hfb; clear hfa hfb; have z3 := hx3.size; (try simp only [World.size_drew] at z3); (try simp only [World.size_alloc] at z3); (first | (have VV := Lib.hid (V.out.ext hx3); clear V v0 v1 v2 v3 v4 v5 vz lv mv nv; have V := Lib.hid VV.out; clear VV; obtain ⟨⟨v0, v1, v2, v3, v4, v5⟩, vz⟩ := V.out; have lv := V.out.lt; have mv := Nat.ne_of_lt lv; have nv := Nat.ne_of_gt lv) | (have VV := Lib.hid (V.out.ext ((Ext.alloc _ _).trans hx3)); clear V v0 v1 v2 v3 v4 v5 vz lv mv nv; have V := Lib.hid VV.out; clear VV; obtain ⟨⟨v0, v1, v2, v3, v4, v5⟩, vz⟩ := V.out; have lv := V.out.lt; have mv := Nat.ne_of_lt lv; have nv := Nat.ne_of_gt lv) | ((with_reducible have u := zero_new hx3); (try simp only [World.size_drew] at u); (try simp only [World.size_alloc] at u); have V := Lib.hid u; clear u; obtain ⟨⟨v0, v1, v2, v3, v4, v5⟩, vz⟩ := V.out; have lv := V.out.lt; have mv := Nat.ne_of_lt lv; have nv := Nat.ne_of_gt lv) | ((with_reducible have u := zero_newa hx3); (try simp only [World.size_drew] at u); (try simp only [World.size_alloc] at u); have V := Lib.hid u; clear u; obtain ⟨⟨v0, v1, v2, v3, v4, v5⟩, vz⟩ := V.out; have lv := V.out.lt; have mv := Nat.ne_of_lt lv; have nv := Nat.ne_of_gt lv) | ((with_reducible have u := zero_newd hx3); (try simp only [World.size_drew] at u); (try simp only [World.size_alloc] at u); have V := Lib.hid u; clear u; obtain ⟨⟨v0, v1, v2, v3, v4, v5⟩, vz⟩ := V.out; have lv := V.out.lt; have mv := Nat.ne_of_lt lv; have nv := Nat.ne_of_gt lv) | skip))
     | (have hg := hx1; clear hg; go_at_call 159; (with_reducible refine (rabs_any (HA.out.dyb.ext (HE.out.trans ex2))).mono ?_); rw [Ev.out]; rintro e1 w2 ⟨A2, c2, rfl, hon, hx2⟩; have D2 := Lib.hid (Dy.of_on hon Wv.out.1 Wv.out.lim (Ext.refl _)); clear hon; have z2 := hx2.size; (try simp only [World.size_drew] at z2); (try simp only [World.size_alloc] at z2); (first | (have VV := Lib.hid (V.out.ext hx2); clear V v0 v1 v2 v3 v4 v5 vz lv mv nv; have V := Lib.hid VV.out; clear VV; obtain ⟨⟨v0, v1, v2, v3, v4, v5⟩, vz⟩ := V.out; have lv := V.out.lt; have mv := Nat.ne_of_lt lv; have nv := Nat.ne_of_gt lv) | (have VV := Lib.hid (V.out.ext ((Ext.alloc _ _).trans hx2)); clear V v0 v1 v2 v3 v4 v5 vz lv mv nv; have V := Lib.hid VV.out; clear VV; obtain ⟨⟨v0, v1, v2, v3, v4, v5⟩, vz⟩ := V.out; have lv := V.out.lt; have mv := Nat.ne_of_lt lv; have nv := Nat.ne_of_gt lv) | ((with_reducible have u := zero_new hx2); (try simp only [World.size_drew] at u); (try simp only [World.size_alloc] at u); have V := Lib.hid u; clear u; obtain ⟨⟨v0, v1, v2, v3, v4, v5⟩, vz⟩ := V.out; have lv := V.out.lt; have mv := Nat.ne_of_lt lv; have nv := Nat.ne_of_gt lv) | ((with_reducible have u := zero_newa hx2); (try simp only [World.size_drew] at u); (try simp only [World.size_alloc] at u); have V := Lib.hid u; clear u; obtain ⟨⟨v0, v1, v2, v3, v4, v5⟩, vz⟩ := V.out; have lv := V.out.lt; have mv := Nat.ne_of_lt lv; have nv := Nat.ne_of_gt lv) | ((with_reducible have u := zero_newd hx2); (try simp only [World.size_drew] at u); (try simp only [World.size_alloc] at u); have V := Lib.hid u; clear u; obtain ⟨⟨v0, v1, v2, v3, v4, v5⟩, vz⟩ := V.out; have lv := V.out.lt; have mv := Nat.ne_of_lt lv; have nv := Nat.ne_of_gt lv) | skip))
     | (go_at_call 159; (with_reducible refine (rabs_any (HA.out.dya.ext (HE.out.trans ex2))).mono ?_); rw [Eu.out]; rintro e1 w1 ⟨A1, c1, rfl, hon, hx1⟩; have D1 := Lib.hid (Dy.of_on hon Wu.out.1 Wu.out.lim (Ext.refl _)); clear hon; have z1 := hx1.size; (try simp only [World.size_drew] at z1); (try simp only [World.size_alloc] at z1); (first | (have VV := Lib.hid (V.out.ext hx1); clear V v0 v1 v2 v3 v4 v5 vz lv mv nv; have V := Lib.hid VV.out; clear VV; obtain ⟨⟨v0, v1, v2, v3, v4, v5⟩, vz⟩ := V.out; have lv := V.out.lt; have mv := Nat.ne_of_lt lv; have nv := Nat.ne_of_gt lv) | (have VV := Lib.hid (V.out.ext ((Ext.alloc _ _).trans hx1)); clear V v0 v1 v2 v3 v4 v5 vz lv mv nv; have V := Lib.hid VV.out; clear VV; obtain ⟨⟨v0, v1, v2, v3, v4, v5⟩, vz⟩ := V.out; have lv := V.out.lt; have mv := Nat.ne_of_lt lv; have nv := Nat.ne_of_gt lv) | ((with_reducible have u := zero_new hx1); (try simp only [World.size_drew] at u); (try simp only [World.size_alloc] at u); have V := Lib.hid u; clear u; obtain ⟨⟨v0, v1, v2, v3, v4, v5⟩, vz⟩ := V.out; have lv := V.out.lt; have mv := Nat.ne_of_lt lv; have nv := Nat.ne_of_gt lv) | ((with_reducible have u := zero_newa hx1); (try simp only [World.size_drew] at u); (try simp only [World.size_alloc] at u); have V := Lib.hid u; clear u; obtain ⟨⟨v0, v1, v2, v3, v4, v5⟩, vz⟩ := V.out; have lv := V.out.lt; have mv := Nat.ne_of_lt lv; have nv := Nat.ne_of_gt lv) | ((with_reducible have u := zero_newd hx1); (try simp only [World.size_drew] at u); (try simp only [World.size_alloc] at u); have V := Lib.hid u; clear u; obtain ⟨⟨v0, v1, v2, v3, v4, v5⟩, vz⟩ := V.out; have lv := V.out.lt; have mv := Nat.ne_of_lt lv; have nv := Nat.ne_of_gt lv) | skip)))
   all_goals
    have hE3 : Ext wc w3 := ex2
    have hE2 := Ext.size (show Ext wc w2 from ex2)
    have fa := FA.out; have fb := FB.out
    (try simp only [World.size_drew] at fa fb); (try simp only [World.size_alloc] at fa fb)
    go_wp2_with fail
    go_meet
    refine ⟨_, rfl, ?_⟩
    refine Lib.hid ?_
    first | (with_reducible refine abr_new hE3 fa fb ?_ ?_ <;> omega) | (with_reducible refine abr_set hE3 V.out ?_ fa fb ?_ ?_ ?_ <;> omega)
  case rest =>
   obtain ⟨p, rfl, hq⟩ := hcut
   obtain ⟨A3, c3, B3, k3, hx, hp, hlp, oa, ob⟩ := hq.out
   have HX1 := Lib.hid (HX0.out.ext hx); have HXZ1 := Lib.hid (HXZ.out.ext hx); have HE1 := Lib.hid (HE.out.trans hx); have HP := Lib.hid hp; have OA := Lib.hid oa; have OB := Lib.hid ob; have HLP := Lib.hid hlp
   clear hq hx hp oa ob hlp HS HS2 HX0 HXZ HE
   obtain ⟨⟨k0, k1, k2, k3', k4, k5⟩, kz⟩ := HX1.out
   have zl : Hid (len DV.zero.m ≤ 4194304) := by show _ ≤ _; rw [zero_len]; decide
   have hlp := HLP.out; have hpn : ¬ p = w.heap.size + 1 := (by omega); have hpn' : ¬ w.heap.size + 1 = p := (by omega)
   go_wp2_with (go_at_call 36; (with_reducible refine (ricontains_any (HN.out.ext HE1.out) (Dy.zero _) zl.out).mono ?_); rw [HCO.out]; rintro e1 w3 ⟨rfl, hx⟩; have HE2 := Lib.hid (HE1.out.trans hx); obtain ⟨⟨v0, v1, v2, v3, v4, v5⟩, vz⟩ := HP.out.ext hx; have lv := (HP.out.ext hx).lt; obtain ⟨⟨r0, r1, r2, r3, r4, r5⟩, rz⟩ := HXZ1.out.ext hx; have lr := (HXZ1.out.ext hx).lt; have OA2 := Lib.hid (OA.out.ext hx); have OB2 := Lib.hid (OB.out.ext hx); clear hx k0 k1 k2 k3' k4 k5 kz)
   go_wp2_with fail
   exact bodyPost_ret (v := ivd L A3 c3 H B3 k3) (by simp [results, Tryz.results103, go_sem, r0, r1, r2, r3, r4, r5]) rfl (IvRes.end6 rfl OA2.out.1 OB2.out.1 HE2.out (by omega) (by omega) (by omega))
set_option maxRecDepth 100000 in
set_option maxHeartbeats 1000000 in
theorem riabs_true {w : World} {n1 n2 : Bool} {A B A' B' : Option Addr} {k c m e c' e' : Nat} {d1 d2 : Int} {a b : DV} (ha : Iw w n1 A k c d1 n2 B m e d2 a b A' c' B' e') (hcon : conB a b DV.zero = true) :
  Calls Tryz.prog 103 #[iv n1 A k c d1 n2 B m e d2] w (IvRes DV.zero (hi2 (absD a) (absD b)) w) := by
 obtain ⟨u, hu⟩ : ∃ u, absD a = u := ⟨_, rfl⟩
 obtain ⟨v, hv⟩ : ∃ v, absD b = v := ⟨_, rfl⟩
 have Wu : Hid (Bdd u) := by show Bdd _; rw [← hu]; exact bd_abs ha.wa
 have Wv : Hid (Bdd v) := by show Bdd _; rw [← hv]; exact bd_abs ha.wb
 rw [hu, hv]
 obtain ⟨L, hL⟩ : ∃ L, lo2 u v = L := ⟨_, rfl⟩
 obtain ⟨H, hH⟩ : ∃ H, hi2 u v = H := ⟨_, rfl⟩
 rw [hH]
 have EL := Lib.hid hL; have EH := Lib.hid hH; have Eu := Lib.hid hu; have Ev := Lib.hid hv; clear hL hH hu hv
 have HCO := Lib.hid hcon; clear hcon
 have HN := Lib.hid (iv_ok ha.ra ha.sa ha.wa ha.rb ha.sb ha.wb ha.le)
 have HA := Lib.hid ha; clear ha
 obtain ⟨X0, XZ, XE⟩ := boxes2 w n1 n2 A B k c m e d1 d2
 have HX0 := Lib.hid X0; have HXZ := Lib.hid XZ; have HXE := Lib.hid XE
 clear X0 XZ XE
 go_enter Tryz.func103, Tryz.ntmps103
 go_upto_region 1 with fail
 go_cut [] (fun wx => OneI w a b A' c' B' e' wx)
 case first =>
  obtain ⟨⟨k0, k1, k2, k3, k4, k5⟩, kz⟩ := HX0.out
  go_wp2_with (go_at_call 79; (with_reducible refine (HA.out.nrm _ HXE.out).mono ?_); rintro e1 w1 ⟨rfl, hx⟩; clear k0 k1 k2 k3 k4 k5 kz; obtain ⟨⟨k0, k1, k2, k3, k4, k5⟩, kz⟩ := HX0.out.ext hx; have HX := Lib.hid hx; clear hx)
  go_meet
  exact oneI_of HX0.out HXZ.out HXE.out HX.out
 case rest =>
  clear HX0 HXZ HXE
  obtain ⟨hE, hX0, hXZ⟩ := hcut
  have HE := Lib.hid hE; have HX0 := Lib.hid hX0; have HXZ := Lib.hid hXZ
  clear hE hX0 hXZ
  have HS : Hid (∀ w', Ext wc w' → w'.cell? ⟨w.heap.size, 0, none⟩ = some (.bool a.neg) ∧ w'.cell? ⟨w.heap.size, 1, none⟩ = some (.slice A' (len a.m) c') ∧ w'.cell? ⟨w.heap.size, 2, none⟩ = some (I a.den) ∧ w'.cell? ⟨w.heap.size, 3, none⟩ = some (.bool b.neg) ∧ w'.cell? ⟨w.heap.size, 4, none⟩ = some (.slice B' (len b.m) e') ∧ w'.cell? ⟨w.heap.size, 5, none⟩ = some (I b.den)) := fun w' e => by
   obtain ⟨⟨i0, i1, i2, i3, i4, i5⟩, iz⟩ := HX0.out.ext e
   exact ⟨i0, i1, i2, i3, i4, i5⟩
  have hwc := HXZ.out.lt
  have HS2 : Hid (∀ w1 p u0 u1 u2 u3 u4 u5, Ext wc w1 → wc.heap.size ≤ p → ((((((w1.setCell ⟨p, 0, none⟩ u0).setCell ⟨p, 1, none⟩ u1).setCell ⟨p, 2, none⟩ u2).setCell ⟨p, 3, none⟩ u3).setCell ⟨p, 4, none⟩ u4).setCell ⟨p, 5, none⟩ u5).cell? ⟨w.heap.size, 0, none⟩ = some (.bool a.neg) ∧ ((((((w1.setCell ⟨p, 0, none⟩ u0).setCell ⟨p, 1, none⟩ u1).setCell ⟨p, 2, none⟩ u2).setCell ⟨p, 3, none⟩ u3).setCell ⟨p, 4, none⟩ u4).setCell ⟨p, 5, none⟩ u5).cell? ⟨w.heap.size, 1, none⟩ = some (.slice A' (len a.m) c') ∧ ((((((w1.setCell ⟨p, 0, none⟩ u0).setCell ⟨p, 1, none⟩ u1).setCell ⟨p, 2, none⟩ u2).setCell ⟨p, 3, none⟩ u3).setCell ⟨p, 4, none⟩ u4).setCell ⟨p, 5, none⟩ u5).cell? ⟨w.heap.size, 2, none⟩ = some (I a.den) ∧ ((((((w1.setCell ⟨p, 0, none⟩ u0).setCell ⟨p, 1, none⟩ u1).setCell ⟨p, 2, none⟩ u2).setCell ⟨p, 3, none⟩ u3).setCell ⟨p, 4, none⟩ u4).setCell ⟨p, 5, none⟩ u5).cell? ⟨w.heap.size, 3, none⟩ = some (.bool b.neg) ∧ ((((((w1.setCell ⟨p, 0, none⟩ u0).setCell ⟨p, 1, none⟩ u1).setCell ⟨p, 2, none⟩ u2).setCell ⟨p, 3, none⟩ u3).setCell ⟨p, 4, none⟩ u4).setCell ⟨p, 5, none⟩ u5).cell? ⟨w.heap.size, 4, none⟩ = some (.slice B' (len b.m) e') ∧ ((((((w1.setCell ⟨p, 0, none⟩ u0).setCell ⟨p, 1, none⟩ u1).setCell ⟨p, 2, none⟩ u2).setCell ⟨p, 3, none⟩ u3).setCell ⟨p, 4, none⟩ u4).setCell ⟨p, 5, none⟩ u5).cell? ⟨w.heap.size, 5, none⟩ = some (I b.den)) := fun w1 p u0 u1 u2 u3 u4 u5 e hp => by
   obtain ⟨⟨i0, i1, i2, i3, i4, i5⟩, iz⟩ := (HX0.out.ext e).far6 (g' := p) (by omega) u0 u1 u2 u3 u4 u5
   exact ⟨i0, i1, i2, i3, i4, i5⟩
  go_upto_region 2 with fail
  go_cut [3] (fun s3 wx => ∃ p, s3 = .pointer (some ⟨p, 0, none⟩) ∧ Hid (AbR w wc wx p L H))
  case first =>
   clear HX0 HXZ HN HCO
   go_region_held3 (fun w' => w'.cell? ⟨w.heap.size, 0, none⟩ = some (.bool a.neg) ∧ w'.cell? ⟨w.heap.size, 1, none⟩ = some (.slice A' (len a.m) c') ∧ w'.cell? ⟨w.heap.size, 2, none⟩ = some (I a.den) ∧ w'.cell? ⟨w.heap.size, 3, none⟩ = some (.bool b.neg) ∧ w'.cell? ⟨w.heap.size, 4, none⟩ = some (.slice B' (len b.m) e') ∧ w'.cell? ⟨w.heap.size, 5, none⟩ = some (I b.den)) (first | with_reducible assumption | exact HS.out _ ex2 | exact HS2.out _ _ _ _ _ _ _ _ ex2 (by omega))
    (first
     | (have hg := hx2; clear hg; go_at_call 92; (first | (with_reducible refine (span2 (D1.out.ext ex2) (D2.out.ext ex2) Wu.out Wv.out (S6.new _ _ _ _ _ _ _ _)).mono ?_) | (with_reducible refine (span2 (D1.out.ext ex2) (D2.out.ext ex2) Wu.out Wv.out (S6.ext (S6.new _ _ _ _ _ _ _ _) (Ext.alloc _ _))).mono ?_) | (with_reducible refine (span2 (D1.out.ext ex2) (D2.out.ext ex2) Wu.out Wv.out (S6.new1 _ _ _ _ _ _ _ _ _)).mono ?_)); rw [EL.out, EH.out]; rintro e1 w3 ⟨A3, c3, B3, k3, rfl, hfa, hfb, hx3⟩; have FA := Lib.hid hfa; have FB := Lib.hid hfb; clear hfa hfb; have z3 := hx3.size; (try simp only [World.size_drew] at z3); (try simp only [World.size_alloc] at z3); (first | (have VV := Lib.hid (V.out.ext hx3); clear V v0 v1 v2 v3 v4 v5 vz lv mv nv; have V := Lib.hid VV.out; clear VV; obtain ⟨⟨v0, v1, v2, v3, v4, v5⟩, vz⟩ := V.out; have lv := V.out.lt; have mv := Nat.ne_of_lt lv; have nv := Nat.ne_of_gt lv) | (have VV := Lib.hid (V.out.ext ((Ext.alloc _ _).trans hx3)); clear V v0 v1 v2 v3 v4 v5 vz lv mv nv; have V := Lib.hid VV.out; clear VV; obtain ⟨⟨v0, v1, v2, v3, v4, v5⟩, vz⟩ := V.out; have lv := V.out.lt; have mv := Nat.ne_of_lt lv; have nv := Nat.ne_of_gt lv) | ((with_reducible have u := zero_new hx3); (try simp only [World.size_drew] at u); (try simp only [World.size_alloc] at u); have V := Lib.hid u; clear u; obtain ⟨⟨v0, v1, v2, v3, v4, v5⟩, vz⟩ := V.out; have lv := V.out.lt; have mv := Nat.ne_of_lt lv; have nv := Nat.ne_of_gt lv) | ((with_reducible have u := zero_newa hx3); (try simp only [World.size_drew] at u); (try simp only [World.size_alloc] at u); have V := Lib.hid u; clear u; obtain ⟨⟨v0, v1, v2, v3, v4, v5⟩, vz⟩ := V.out; have lv := V.out.lt; have mv := Nat.ne_of_lt lv; have nv := Nat.ne_of_gt lv) | ((with_reducible have u := zero_newd hx3); (try simp only [World.size_drew] at u); (try simp only [World.size_alloc] at u); have V := Lib.hid u; clear u; obtain ⟨⟨v0, v1, v2, v3, v4, v5⟩, vz⟩ := V.out; have lv := V.out.lt; have mv := Nat.ne_of_lt lv; have nv := Nat.ne_of_gt lv) | skip))
     | (have hg := hx1; clear hg; go_at_call 159; (with_reducible refine (rabs_any (HA.out.dyb.ext (HE.out.trans ex2))).mono ?_); rw [Ev.out]; rintro e1 w2 ⟨A2, c2, rfl, hon, hx2⟩; have D2 := Lib.hid (Dy.of_on hon Wv.out.1 Wv.out.lim (Ext.refl _)); clear hon; have z2 := hx2.size; (try simp only [World.size_drew] at z2); (try simp only [World.size_alloc] at z2); (first | (have VV := Lib.hid (V.out.ext hx2); clear V v0 v1 v2 v3 v4 v5 vz lv mv nv; have V := Lib.hid VV.out; clear VV; obtain ⟨⟨v0, v1, v2, v3, v4, v5⟩, vz⟩ := V.out; have lv := V.out.lt; have mv := Nat.ne_of_lt lv; have nv := Nat.ne_of_gt lv) | (have VV := Lib.hid (V.out.ext ((Ext.alloc _ _).trans hx2)); clear V v0 v1 v2 v3 v4 v5 vz lv mv nv; have V := Lib.hid VV.out; clear VV; obtain ⟨⟨v0, v1, v2, v3, v4, v5⟩, vz⟩ := V.out; have lv := V.out.lt; have mv := Nat.ne_of_lt lv; have nv := Nat.ne_of_gt lv) | ((with_reducible have u := zero_new hx2); (try simp only [World.size_drew] at u); (try simp only [World.size_alloc] at u); have V := Lib.hid u; clear u; obtain ⟨⟨v0, v1, v2, v3, v4, v5⟩, vz⟩ := V.out; have lv := V.out.lt; have mv := Nat.ne_of_lt lv; have nv := Nat.ne_of_gt lv) | ((with_reducible have u := zero_newa hx2); (try simp only [World.size_drew] at u); (try simp only [World.size_alloc] at u); have V := Lib.hid u; clear u; obtain ⟨⟨v0, v1, v2, v3, v4, v5⟩, vz⟩ := V.out; have lv := V.out.lt; have mv := Nat.ne_of_lt lv; have nv := Nat.ne_of_gt lv) | ((with_reducible have u := zero_newd hx2); (try simp only [World.size_drew] at u); (try simp only [World.size_alloc] at u); have V := Lib.hid u; clear u; obtain ⟨⟨v0, v1, v2, v3, v4, v5⟩, vz⟩ := V.out; have lv := V.out.lt; have mv := Nat.ne_of_lt lv; have nv := Nat.ne_of_gt lv) | skip))
     | (go_at_call 159; (with_reducible refine (rabs_any (HA.out.dya.ext (HE.out.trans ex2))).mono ?_); rw [Eu.out]; rintro e1 w1 ⟨A1, c1, rfl, hon, hx1⟩; have D1 := Lib.hid (Dy.of_on hon Wu.out.1 Wu.out.lim (Ext.refl _)); clear hon; have z1 := hx1.size; (try simp only [World.size_drew] at z1); (try simp only [World.size_alloc] at z1); (first | (have VV := Lib.hid (V.out.ext hx1); clear V v0 v1 v2 v3 v4 v5 vz lv mv nv; have V := Lib.hid VV.out; clear VV; obtain ⟨⟨v0, v1, v2, v3, v4, v5⟩, vz⟩ := V.out; have lv := V.out.lt; have mv := Nat.ne_of_lt lv; have nv := Nat.ne_of_gt lv) | (have VV := Lib.hid (V.out.ext ((Ext.alloc _ _).trans hx1)); clear V v0 v1 v2 v3 v4 v5 vz lv mv nv; have V := Lib.hid VV.out; clear VV; obtain ⟨⟨v0, v1, v2, v3, v4, v5⟩, vz⟩ := V.out; have lv := V.out.lt; have mv := Nat.ne_of_lt lv; have nv := Nat.ne_of_gt lv) | ((with_reducible have u := zero_new hx1); (try simp only [World.size_drew] at u); (try simp only [World.size_alloc] at u); have V := Lib.hid u; clear u; obtain ⟨⟨v0, v1, v2, v3, v4, v5⟩, vz⟩ := V.out; have lv := V.out.lt; have mv := Nat.ne_of_lt lv; have nv := Nat.ne_of_gt lv) | ((with_reducible have u := zero_newa hx1); (try simp only [World.size_drew] at u); (try simp only [World.size_alloc] at u); have V := Lib.hid u; clear u; obtain ⟨⟨v0, v1, v2, v3, v4, v5⟩, vz⟩ := V.out; have lv := V.out.lt; have mv := Nat.ne_of_lt lv; have nv := Nat.ne_of_gt lv) | ((with_reducible have u := zero_newd hx1); (try simp only [World.size_drew] at u); (try simp only [World.size_alloc] at u); have V := Lib.hid u; clear u; obtain ⟨⟨v0, v1, v2, v3, v4, v5⟩, vz⟩ := V.out; have lv := V.out.lt; have mv := Nat.ne_of_lt lv; have nv := Nat.ne_of_gt lv) | skip)))
   all_goals
    have hE3 : Ext wc w3 := ex2
    have hE2 := Ext.size (show Ext wc w2 from ex2)
    have fa := FA.out; have fb := FB.out
    (try simp only [World.size_drew] at fa fb); (try simp only [World.size_alloc] at fa fb)
    go_wp2_with fail
    go_meet
    refine ⟨_, rfl, ?_⟩
    refine Lib.hid ?_
    first | (with_reducible refine abr_new hE3 fa fb ?_ ?_ <;> omega) | (with_reducible refine abr_set hE3 V.out ?_ fa fb ?_ ?_ ?_ <;> omega)
  case rest =>
   obtain ⟨p, rfl, hq⟩ := hcut
   obtain ⟨A3, c3, B3, k3, hx, hp, hlp, oa, ob⟩ := hq.out
   have HX1 := Lib.hid (HX0.out.ext hx); have HXZ1 := Lib.hid (HXZ.out.ext hx); have HE1 := Lib.hid (HE.out.trans hx); have HP := Lib.hid hp; have OA := Lib.hid oa; have OB := Lib.hid ob; have HLP := Lib.hid hlp
   clear hq hx hp oa ob hlp HS HS2 HX0 HXZ HE
   obtain ⟨⟨k0, k1, k2, k3', k4, k5⟩, kz⟩ := HX1.out
   have zl : Hid (len DV.zero.m ≤ 4194304) := by show _ ≤ _; rw [zero_len]; decide
   have hlp := HLP.out; have hpn : ¬ p = w.heap.size + 1 := (by omega); have hpn' : ¬ w.heap.size + 1 = p := (by omega)
   go_wp2_with (go_at_call 36; (with_reducible refine (ricontains_any (HN.out.ext HE1.out) (Dy.zero _) zl.out).mono ?_); rw [HCO.out]; rintro e1 w3 ⟨rfl, hx⟩; have HE2 := Lib.hid (HE1.out.trans hx); obtain ⟨⟨v0, v1, v2, v3, v4, v5⟩, vz⟩ := HP.out.ext hx; have lv := (HP.out.ext hx).lt; obtain ⟨⟨r0, r1, r2, r3, r4, r5⟩, rz⟩ := HXZ1.out.ext hx; have lr := (HXZ1.out.ext hx).lt; have OA2 := Lib.hid (OA.out.ext hx); have OB2 := Lib.hid (OB.out.ext hx); clear hx k0 k1 k2 k3' k4 k5 kz)
   go_wp2_with fail
   have zf : Fr w3 (w.heap.size + 2) none (len DV.zero.m) 0 (dg DV.zero.m) := ⟨by rw [zero_len]; exact fun h => absurd h (Nat.lt_irrefl 0), by rw [zero_len]; exact ⟨Nat.le_refl _, by unfold maxLen; omega, fun _ => ⟨rfl, rfl⟩⟩, fun _ _ h => by cases h⟩
   have ez : ivd DV.zero none 0 H B3 k3 = iv false none 0 0 0 H.neg B3 (len H.m) k3 H.den := by show iv DV.zero.neg none (len DV.zero.m) 0 DV.zero.den _ _ _ _ _ = _; rw [zero_len]; rfl
   exact bodyPost_ret (v := iv false none 0 0 0 H.neg B3 (len H.m) k3 H.den) (by simp [results, Tryz.results103, go_sem, r0, r1, r2, r3, r4, r5]) rfl (abs_end ez.symm zf zero_len OB2.out HE2.out (by omega))
end
end
end Go.Proofs.YtgnngldlgcdnfaaGreatDoor

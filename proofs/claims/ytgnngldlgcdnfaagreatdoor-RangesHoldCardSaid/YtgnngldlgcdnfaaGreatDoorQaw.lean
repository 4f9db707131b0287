import Derived.Test.YtgnngldlgcdnfaaGreatDoorQas
import Derived.Deep.RegionHeld3
import Derived.Deep.DeepCutAuto
namespace Go.Proofs.YtgnngldlgcdnfaaGreatDoor
open Go.RowKit
attribute [local go_sem ↓] Go.wp_at_zero Go.wp_at_succ
def AbS (W : World) (wx : World) (p q : Nat) (u v : DV) (A : Option Addr) (c : Nat) (B : Option Addr) (e : Nat) : Prop :=
 Ext W wx ∧ St wx p (.bool u.neg) (.slice A (len u.m) c) (I u.den) ∧ St wx q (.bool v.neg) (.slice B (len v.m) e) (I v.den) ∧ Off wx W.heap.size p q A (len u.m) c (dg u.m) ∧ Off wx W.heap.size p q B (len v.m) e (dg v.m)
def absL (a b : DV) : DV := if conB a b DV.zero = true then lo3 (absD a) (absD b) DV.zero else lo2 (absD a) (absD b)
def absH (a b : DV) : DV := if conB a b DV.zero = true then hi3 (absD a) (absD b) DV.zero else hi2 (absD a) (absD b)
set_option maxRecDepth 100000 in
set_option maxHeartbeats 1000000 in
theorem iabs_true {w : World} {n1 n2 : Bool} {A B A' B' : Option Addr} {k c m e c' e' : Nat} {d1 d2 : Int} {a b : DV} (ha : Iw w n1 A k c d1 n2 B m e d2 a b A' c' B' e') (hT : Tabs w) (hcon : conB a b DV.zero = true) :
  Calls Tryz.prog 176 #[iv n1 A k c d1 n2 B m e d2] w (IvRes (lo3 (absD a) (absD b) DV.zero) (hi3 (absD a) (absD b) DV.zero) w) := by
 obtain ⟨u, hu⟩ : ∃ u, absD a = u := ⟨_, rfl⟩
 obtain ⟨v, hv⟩ : ∃ v, absD b = v := ⟨_, rfl⟩
 have Wu : Hid (u.ok ∧ len u.m ≤ 16777216) := ⟨hu ▸ absD_ok _, by have h := len_mono (mkD_m_le false a.m a.den); have h2 : (absD a).m = (mkD false a.m a.den).m := rfl; rw [← h2, hu] at h; have := ha.wa.2; omega⟩
 have Wv : Hid (v.ok ∧ len v.m ≤ 16777216) := ⟨hv ▸ absD_ok _, by have h := len_mono (mkD_m_le false b.m b.den); have h2 : (absD b).m = (mkD false b.m b.den).m := rfl; rw [← h2, hv] at h; have := ha.wb.2; omega⟩
 rw [hu, hv]
 have Eu := Lib.hid hu; have Ev := Lib.hid hv; have HCO := Lib.hid hcon; clear hu hv hcon
 have HN := Lib.hid (iv_ok ha.ra ha.sa ha.wa ha.rb ha.sb ha.wb ha.le)
 have HA := Lib.hid ha; have HT := Lib.hid hT; clear ha hT
 obtain ⟨X0, XZ, XE⟩ := boxes2 w n1 n2 A B k c m e d1 d2
 have HX0 := Lib.hid X0; have HXZ := Lib.hid XZ; have HXE := Lib.hid XE
 clear X0 XZ XE
 go_enter Tryz.func176, Tryz.ntmps176
 go_upto_region 1 with fail
 go_cut [] (fun wx => OneI w a b A' c' B' e' wx)
 case first =>
  obtain ⟨⟨k0, k1, k2, k3, k4, k5⟩, kz⟩ := HX0.out
  go_wp2_with (go_at_call 87; (with_reducible refine (HA.out.itv _ HXE.out).mono ?_); rintro e1 w1 ⟨rfl, hx⟩; clear k0 k1 k2 k3 k4 k5 kz; obtain ⟨⟨k0, k1, k2, k3, k4, k5⟩, kz⟩ := HX0.out.ext hx; have HX := Lib.hid hx; clear hx)
  go_meet
  exact oneI_of HX0.out HXZ.out HXE.out HX.out
 case rest =>
  clear HX0 HXZ HXE
  obtain ⟨hE, hX0, hXZ⟩ := hcut
  have HE := Lib.hid hE; have HX0 := Lib.hid hX0; have HXZ := Lib.hid hXZ
  clear hE hX0 hXZ
  have HS : Hid (∀ w', Ext wc w' → w'.cell? ⟨w.heap.size, 0, none⟩ = some (.bool a.neg) ∧ w'.cell? ⟨w.heap.size, 1, none⟩ = some (.slice A' (len a.m) c') ∧ w'.cell? ⟨w.heap.size, 2, none⟩ = some (I a.den) ∧ w'.cell? ⟨w.heap.size, 3, none⟩ = some (.bool b.neg) ∧ w'.cell? ⟨w.heap.size, 4, none⟩ = some (.slice B' (len b.m) e') ∧ w'.cell? ⟨w.heap.size, 5, none⟩ = some (I b.den)) := fun w' e => by
   obtain ⟨⟨i0, i1, i2, i3, i4, i5⟩, iz⟩ := HX0.out.ext e
   exact ⟨i0, i1, i2, i3, i4, i5⟩
  go_upto_region 2 with fail
  go_cut [3, 4] (fun s3 s4 wx => ∃ p q A1 c1 A2 c2, s3 = .pointer (some ⟨p, 0, none⟩) ∧ s4 = .pointer (some ⟨q, 0, none⟩) ∧ Hid (AbS wc wx p q u v A1 c1 A2 c2))
  case first =>
   clear HX0 HXZ HN HCO
   go_region_held3 (fun w' => w'.cell? ⟨w.heap.size, 0, none⟩ = some (.bool a.neg) ∧ w'.cell? ⟨w.heap.size, 1, none⟩ = some (.slice A' (len a.m) c') ∧ w'.cell? ⟨w.heap.size, 2, none⟩ = some (I a.den) ∧ w'.cell? ⟨w.heap.size, 3, none⟩ = some (.bool b.neg) ∧ w'.cell? ⟨w.heap.size, 4, none⟩ = some (.slice B' (len b.m) e') ∧ w'.cell? ⟨w.heap.size, 5, none⟩ = some (I b.den)) (first | with_reducible assumption | exact HS.out _ ex2)
    (first
     | (have hg := hx1; clear hg; go_at_call 184; (with_reducible refine (abs_any (HA.out.dyb.ext (HE.out.trans ex2)) (HT.out.ext (HE.out.trans ex2))).mono ?_); rw [Ev.out]; rintro e w2 ⟨A2, c2, rfl, hon2, hx2⟩; have O2 := Lib.hid hon2; clear hon2; have g2 := Ext.size hx2; (try simp only [World.size_alloc] at g2); (first
     | (have V1 := Lib.hid (U1.out.ext hx2); have V2 := Lib.hid (U2.out.ext hx2); obtain ⟨⟨v10, v11, v12⟩, v13⟩ := V1.out; obtain ⟨⟨v20, v21, v22⟩, v23⟩ := V2.out; have l1 := V1.out.lt; have m1 := Nat.ne_of_lt l1; have n1 := Nat.ne_of_gt l1; have l2 := V2.out.lt; have m2 := Nat.ne_of_lt l2; have n2 := Nat.ne_of_gt l2)
     | ((with_reducible have u2 := one_new hx2); have V2 := Lib.hid u2; have V1 := Lib.hid (U1.out.ext ((Ext.alloc _ _).trans hx2)); clear u2; obtain ⟨⟨v10, v11, v12⟩, v13⟩ := V1.out; obtain ⟨⟨v20, v21, v22⟩, v23⟩ := V2.out; have l1 := V1.out.lt; have m1 := Nat.ne_of_lt l1; have n1 := Nat.ne_of_gt l1; have l2 := V2.out.lt; have m2 := Nat.ne_of_lt l2; have n2 := Nat.ne_of_gt l2)
     | (have V1 := Lib.hid (U1.out.ext hx2); obtain ⟨⟨v10, v11, v12⟩, v13⟩ := V1.out; have l1 := V1.out.lt; have m1 := Nat.ne_of_lt l1; have n1 := Nat.ne_of_gt l1)
     | ((with_reducible have uu := two_new hx2); obtain ⟨u1, u2⟩ := uu; have V1 := Lib.hid u1; have V2 := Lib.hid u2; clear u1 u2; obtain ⟨⟨v10, v11, v12⟩, v13⟩ := V1.out; obtain ⟨⟨v20, v21, v22⟩, v23⟩ := V2.out; have l1 := V1.out.lt; have m1 := Nat.ne_of_lt l1; have n1 := Nat.ne_of_gt l1; have l2 := V2.out.lt; have m2 := Nat.ne_of_lt l2; have n2 := Nat.ne_of_gt l2)
     | ((with_reducible have u1 := one_new hx2); have V1 := Lib.hid u1; clear u1; obtain ⟨⟨v10, v11, v12⟩, v13⟩ := V1.out; have l1 := V1.out.lt; have m1 := Nat.ne_of_lt l1; have n1 := Nat.ne_of_gt l1)
     | skip))
     | (go_at_call 184; (with_reducible refine (abs_any (HA.out.dya.ext (HE.out.trans ex2)) (HT.out.ext (HE.out.trans ex2))).mono ?_); rw [Eu.out]; rintro e w1 ⟨A1, c1, rfl, hon1, hx1⟩; have O1 := Lib.hid hon1; clear hon1; have g1 := Ext.size hx1; (try simp only [World.size_drew, World.size_alloc] at g1); (first | ((with_reducible have uu := two_newd hx1); obtain ⟨u1, u2⟩ := uu; have U1 := Lib.hid u1; have U2 := Lib.hid u2; clear u1 u2) | ((with_reducible have u1 := one_newd hx1); have U1 := Lib.hid u1; clear u1) | skip)))
   all_goals
    go_wp2_with fail
    go_meet
    have o1 := O1.out
    have o2 := O2.out
    simp only [World.size_drew, World.size_alloc] at o1 o2
    refine ⟨_, _, A1, c1, A2, c2, rfl, rfl, ex2, ⟨by go_simp, by go_simp, by go_simp⟩, ⟨by go_simp, by go_simp, by go_simp⟩, ?_, ?_⟩
    ·with_reducible (repeat (first | refine Off.setp ?_ _ _ | refine Off.setq ?_ _ _ | refine Off.toAlloc ?_))
     exact (On.off o1 (by omega) (by omega) (by omega)).ext ex2
    ·with_reducible (repeat (first | refine Off.setp ?_ _ _ | refine Off.setq ?_ _ _ | refine Off.toAlloc ?_))
     exact (On.off o2 (by omega) (by omega) (by omega)).ext ex2
  case rest =>
   obtain ⟨p, q, A1, c1, A2, c2, rfl, rfl, hc⟩ := hcut
   obtain ⟨hx, hp, hq, o1, o2⟩ := hc.out
   have HY := Lib.hid (HE.out.trans hx)
   have HX0' := Lib.hid (HX0.out.ext hx); have HXZ' := Lib.hid (HXZ.out.ext hx); have SP := Lib.hid hp; have SQ := Lib.hid hq
   have DU := Lib.hid (Dy.valid o1.1.rd o1.1.ok Wu.out.1 Wu.out.2); have DV' := Lib.hid (Dy.valid o2.1.rd o2.1.ok Wv.out.1 Wv.out.2)
   clear hc hx hp hq o1 o2 HX0 HXZ HE HS
   obtain ⟨⟨k0, k1, k2, k3, k4, k5⟩, kz⟩ := HX0'.out
   go_wp2_with (go_at_call 31; (with_reducible refine (contains_any (HN.out.ext (HY.out.trans (Ext.refl _))) (Dy.zero _)).mono ?_); rw [HCO.out]; rintro e1 w3 ⟨rfl, hx⟩; have HY3 := Lib.hid (HY.out.trans hx); have Z3 := Lib.hid (HXZ'.out.ext hx); have DU3 := Lib.hid (DU.out.ext hx); have DV3 := Lib.hid (DV'.out.ext hx); obtain ⟨p0, p1, p2⟩ := SP.out.ext hx; obtain ⟨q0, q1, q2⟩ := SQ.out.ext hx; clear hx k0 k1 k2 k3 k4 k5 kz)
   have EA := fun (W : World) (o : Obj) => Ext.alloc W o
   with_reducible refine (least2 (DU3.out.ext (EA _ _)) (DV3.out.ext (EA _ _)) (Dy.zero _) (HT.out.ext (HY3.out.trans (EA _ _))) (St.mk' (World.cell?_alloc_new _ _ _ 0) (World.cell?_alloc_new _ _ _ 1) (World.cell?_alloc_new _ _ _ 2)) (World.cell?_alloc_new _ _ _ 3) (World.cell?_alloc_new _ _ _ 4) (World.cell?_alloc_new _ _ _ 5)).mono ?_
   rintro e1 w4 ⟨A4, c4, B4, e4, rfl, hfa, hfb, hx⟩
   have FA := Lib.hid hfa; have FB := Lib.hid hfb; clear hfa hfb
   obtain ⟨⟨r0, r1, r2, r3, r4, r5⟩, rz⟩ := Z3.out.ext ((EA _ _).trans hx)
   have HF := Lib.hid (HY3.out.trans ((EA _ _).trans hx))
   have hz := Z3.out.lt
   clear hx EA
   go_wp2_with fail
   exact bodyPost_ret (v := ivd (lo3 u v DV.zero) A4 c4 (hi3 u v DV.zero) B4 e4) (by simp [results, Tryz.results176, go_sem, r0, r1, r2, r3, r4, r5]) rfl (IvRes.end6 rfl FA.out FB.out HF.out (by omega) (by (try simp); omega) (by (try simp); omega))
set_option maxRecDepth 100000 in
set_option maxHeartbeats 1000000 in
theorem iabs_false {w : World} {n1 n2 : Bool} {A B A' B' : Option Addr} {k c m e c' e' : Nat} {d1 d2 : Int} {a b : DV} (ha : Iw w n1 A k c d1 n2 B m e d2 a b A' c' B' e') (hT : Tabs w) (hcon : conB a b DV.zero = false) :
  Calls Tryz.prog 176 #[iv n1 A k c d1 n2 B m e d2] w (IvRes (lo2 (absD a) (absD b)) (hi2 (absD a) (absD b)) w) := by
 obtain ⟨u, hu⟩ : ∃ u, absD a = u := ⟨_, rfl⟩
 obtain ⟨v, hv⟩ : ∃ v, absD b = v := ⟨_, rfl⟩
 have Wu : Hid (u.ok ∧ len u.m ≤ 16777216) := ⟨hu ▸ absD_ok _, by have h := len_mono (mkD_m_le false a.m a.den); have h2 : (absD a).m = (mkD false a.m a.den).m := rfl; rw [← h2, hu] at h; have := ha.wa.2; omega⟩
 have Wv : Hid (v.ok ∧ len v.m ≤ 16777216) := ⟨hv ▸ absD_ok _, by have h := len_mono (mkD_m_le false b.m b.den); have h2 : (absD b).m = (mkD false b.m b.den).m := rfl; rw [← h2, hv] at h; have := ha.wb.2; omega⟩
 rw [hu, hv]
 have Eu := Lib.hid hu; have Ev := Lib.hid hv; have HCO := Lib.hid hcon; clear hu hv hcon
 have HN := Lib.hid (iv_ok ha.ra ha.sa ha.wa ha.rb ha.sb ha.wb ha.le)
 have HA := Lib.hid ha; have HT := Lib.hid hT; clear ha hT
 obtain ⟨X0, XZ, XE⟩ := boxes2 w n1 n2 A B k c m e d1 d2
 have HX0 := Lib.hid X0; have HXZ := Lib.hid XZ; have HXE := Lib.hid XE
 clear X0 XZ XE
 go_enter Tryz.func176, Tryz.ntmps176
 go_upto_region 1 with fail
 go_cut [] (fun wx => OneI w a b A' c' B' e' wx)
 case first =>
  obtain ⟨⟨k0, k1, k2, k3, k4, k5⟩, kz⟩ := HX0.out
  go_wp2_with (go_at_call 87; (with_reducible refine (HA.out.itv _ HXE.out).mono ?_); rintro e1 w1 ⟨rfl, hx⟩; clear k0 k1 k2 k3 k4 k5 kz; obtain ⟨⟨k0, k1, k2, k3, k4, k5⟩, kz⟩ := HX0.out.ext hx; have HX := Lib.hid hx; clear hx)
  go_meet
  exact oneI_of HX0.out HXZ.out HXE.out HX.out
 case rest =>
  clear HX0 HXZ HXE
  obtain ⟨hE, hX0, hXZ⟩ := hcut
  have HE := Lib.hid hE; have HX0 := Lib.hid hX0; have HXZ := Lib.hid hXZ
  clear hE hX0 hXZ
  have HS : Hid (∀ w', Ext wc w' → w'.cell? ⟨w.heap.size, 0, none⟩ = some (.bool a.neg) ∧ w'.cell? ⟨w.heap.size, 1, none⟩ = some (.slice A' (len a.m) c') ∧ w'.cell? ⟨w.heap.size, 2, none⟩ = some (I a.den) ∧ w'.cell? ⟨w.heap.size, 3, none⟩ = some (.bool b.neg) ∧ w'.cell? ⟨w.heap.size, 4, none⟩ = some (.slice B' (len b.m) e') ∧ w'.cell? ⟨w.heap.size, 5, none⟩ = some (I b.den)) := fun w' e => by
   obtain ⟨⟨i0, i1, i2, i3, i4, i5⟩, iz⟩ := HX0.out.ext e
   exact ⟨i0, i1, i2, i3, i4, i5⟩
  go_upto_region 2 with fail
  go_cut [3, 4] (fun s3 s4 wx => ∃ p q A1 c1 A2 c2, s3 = .pointer (some ⟨p, 0, none⟩) ∧ s4 = .pointer (some ⟨q, 0, none⟩) ∧ Hid (AbS wc wx p q u v A1 c1 A2 c2))
  case first =>
   clear HX0 HXZ HN HCO
   go_region_held3 (fun w' => w'.cell? ⟨w.heap.size, 0, none⟩ = some (.bool a.neg) ∧ w'.cell? ⟨w.heap.size, 1, none⟩ = some (.slice A' (len a.m) c') ∧ w'.cell? ⟨w.heap.size, 2, none⟩ = some (I a.den) ∧ w'.cell? ⟨w.heap.size, 3, none⟩ = some (.bool b.neg) ∧ w'.cell? ⟨w.heap.size, 4, none⟩ = some (.slice B' (len b.m) e') ∧ w'.cell? ⟨w.heap.size, 5, none⟩ = some (I b.den)) (first | with_reducible assumption | exact HS.out _ ex2)
    (first
     | (have hg := hx1; clear hg; go_at_call 184; (with_reducible refine (abs_any (HA.out.dyb.ext (HE.out.trans ex2)) (HT.out.ext (HE.out.trans ex2))).mono ?_); rw [Ev.out]; rintro e w2 ⟨A2, c2, rfl, hon2, hx2⟩; have O2 := Lib.hid hon2; clear hon2; have g2 := Ext.size hx2; (try simp only [World.size_alloc] at g2); (first
     | (have V1 := Lib.hid (U1.out.ext hx2); have V2 := Lib.hid (U2.out.ext hx2); obtain ⟨⟨v10, v11, v12⟩, v13⟩ := V1.out; obtain ⟨⟨v20, v21, v22⟩, v23⟩ := V2.out; have l1 := V1.out.lt; have m1 := Nat.ne_of_lt l1; have n1 := Nat.ne_of_gt l1; have l2 := V2.out.lt; have m2 := Nat.ne_of_lt l2; have n2 := Nat.ne_of_gt l2)
     | ((with_reducible have u2 := one_new hx2); have V2 := Lib.hid u2; have V1 := Lib.hid (U1.out.ext ((Ext.alloc _ _).trans hx2)); clear u2; obtain ⟨⟨v10, v11, v12⟩, v13⟩ := V1.out; obtain ⟨⟨v20, v21, v22⟩, v23⟩ := V2.out; have l1 := V1.out.lt; have m1 := Nat.ne_of_lt l1; have n1 := Nat.ne_of_gt l1; have l2 := V2.out.lt; have m2 := Nat.ne_of_lt l2; have n2 := Nat.ne_of_gt l2)
     | (have V1 := Lib.hid (U1.out.ext hx2); obtain ⟨⟨v10, v11, v12⟩, v13⟩ := V1.out; have l1 := V1.out.lt; have m1 := Nat.ne_of_lt l1; have n1 := Nat.ne_of_gt l1)
     | ((with_reducible have uu := two_new hx2); obtain ⟨u1, u2⟩ := uu; have V1 := Lib.hid u1; have V2 := Lib.hid u2; clear u1 u2; obtain ⟨⟨v10, v11, v12⟩, v13⟩ := V1.out; obtain ⟨⟨v20, v21, v22⟩, v23⟩ := V2.out; have l1 := V1.out.lt; have m1 := Nat.ne_of_lt l1; have n1 := Nat.ne_of_gt l1; have l2 := V2.out.lt; have m2 := Nat.ne_of_lt l2; have n2 := Nat.ne_of_gt l2)
     | ((with_reducible have u1 := one_new hx2); have V1 := Lib.hid u1; clear u1; obtain ⟨⟨v10, v11, v12⟩, v13⟩ := V1.out; have l1 := V1.out.lt; have m1 := Nat.ne_of_lt l1; have n1 := Nat.ne_of_gt l1)
     | skip))
     | (go_at_call 184; (with_reducible refine (abs_any (HA.out.dya.ext (HE.out.trans ex2)) (HT.out.ext (HE.out.trans ex2))).mono ?_); rw [Eu.out]; rintro e w1 ⟨A1, c1, rfl, hon1, hx1⟩; have O1 := Lib.hid hon1; clear hon1; have g1 := Ext.size hx1; (try simp only [World.size_drew, World.size_alloc] at g1); (first | ((with_reducible have uu := two_newd hx1); obtain ⟨u1, u2⟩ := uu; have U1 := Lib.hid u1; have U2 := Lib.hid u2; clear u1 u2) | ((with_reducible have u1 := one_newd hx1); have U1 := Lib.hid u1; clear u1) | skip)))
   all_goals
    go_wp2_with fail
    go_meet
    have o1 := O1.out
    have o2 := O2.out
    simp only [World.size_drew, World.size_alloc] at o1 o2
    refine ⟨_, _, A1, c1, A2, c2, rfl, rfl, ex2, ⟨by go_simp, by go_simp, by go_simp⟩, ⟨by go_simp, by go_simp, by go_simp⟩, ?_, ?_⟩
    ·with_reducible (repeat (first | refine Off.setp ?_ _ _ | refine Off.setq ?_ _ _ | refine Off.toAlloc ?_))
     exact (On.off o1 (by omega) (by omega) (by omega)).ext ex2
    ·with_reducible (repeat (first | refine Off.setp ?_ _ _ | refine Off.setq ?_ _ _ | refine Off.toAlloc ?_))
     exact (On.off o2 (by omega) (by omega) (by omega)).ext ex2
  case rest =>
   obtain ⟨p, q, A1, c1, A2, c2, rfl, rfl, hc⟩ := hcut
   obtain ⟨hx, hp, hq, o1, o2⟩ := hc.out
   have HY := Lib.hid (HE.out.trans hx)
   have HX0' := Lib.hid (HX0.out.ext hx); have HXZ' := Lib.hid (HXZ.out.ext hx); have SP := Lib.hid hp; have SQ := Lib.hid hq
   have DU := Lib.hid (Dy.valid o1.1.rd o1.1.ok Wu.out.1 Wu.out.2); have DV' := Lib.hid (Dy.valid o2.1.rd o2.1.ok Wv.out.1 Wv.out.2)
   clear hc hx hp hq o1 o2 HX0 HXZ HE HS
   obtain ⟨⟨k0, k1, k2, k3, k4, k5⟩, kz⟩ := HX0'.out
   go_wp2_with (go_at_call 31; (with_reducible refine (contains_any (HN.out.ext (HY.out.trans (Ext.refl _))) (Dy.zero _)).mono ?_); rw [HCO.out]; rintro e1 w3 ⟨rfl, hx⟩; have HY3 := Lib.hid (HY.out.trans hx); have Z3 := Lib.hid (HXZ'.out.ext hx); have DU3 := Lib.hid (DU.out.ext hx); have DV3 := Lib.hid (DV'.out.ext hx); obtain ⟨p0, p1, p2⟩ := SP.out.ext hx; obtain ⟨q0, q1, q2⟩ := SQ.out.ext hx; clear hx k0 k1 k2 k3 k4 k5 kz)
   have EA := fun (W : World) (o : Obj) => Ext.alloc W o
   with_reducible refine (least1 (DU3.out.ext (EA _ _)) (DV3.out.ext (EA _ _)) (HT.out.ext (HY3.out.trans (EA _ _))) (St.mk' (World.cell?_alloc_new _ _ _ 0) (World.cell?_alloc_new _ _ _ 1) (World.cell?_alloc_new _ _ _ 2))).mono ?_
   rintro e1 w4 ⟨A4, c4, B4, e4, rfl, hfa, hfb, hx⟩
   have FA := Lib.hid hfa; have FB := Lib.hid hfb; clear hfa hfb
   obtain ⟨⟨r0, r1, r2, r3, r4, r5⟩, rz⟩ := Z3.out.ext ((EA _ _).trans hx)
   have HF := Lib.hid (HY3.out.trans ((EA _ _).trans hx))
   have hz := Z3.out.lt
   clear hx EA
   go_wp2_with fail
   exact bodyPost_ret (v := ivd (lo2 u v) A4 c4 (hi2 u v) B4 e4) (by simp [results, Tryz.results176, go_sem, r0, r1, r2, r3, r4, r5]) rfl (IvRes.end6 rfl FA.out FB.out HF.out (by omega) (by (try simp); omega) (by (try simp); omega))
theorem iabs_any {w : World} {n1 n2 : Bool} {A B A' B' : Option Addr} {k c m e c' e' : Nat} {d1 d2 : Int} {a b : DV} (ha : Iw w n1 A k c d1 n2 B m e d2 a b A' c' B' e') (hT : Tabs w) : Calls Tryz.prog 176 #[iv n1 A k c d1 n2 B m e d2] w (IvRes (absL a b) (absH a b) w) := by
 unfold absL absH
 cases h : conB a b DV.zero with
 | true => rw [if_pos rfl, if_pos rfl]; exact iabs_true ha hT h
 | false => rw [if_neg (by decide), if_neg (by decide)]; exact iabs_false ha hT h
end Go.Proofs.YtgnngldlgcdnfaaGreatDoor

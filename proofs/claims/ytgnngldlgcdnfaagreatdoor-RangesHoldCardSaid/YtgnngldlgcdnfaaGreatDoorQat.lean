import Derived.Test.YtgnngldlgcdnfaaGreatDoorQas
import Derived.Deep.RegionHeld3
import Derived.Deep.DeepCutAuto
namespace Go.Proofs.YtgnngldlgcdnfaaGreatDoor
section
section
open Go.RowKit
attribute [local go_sem ↓] Go.wp_at_zero Go.wp_at_succ
set_option maxRecDepth 100000 in
set_option maxHeartbeats 1000000 in
theorem ineg_any {w : World} {n1 n2 : Bool} {A B A' B' : Option Addr} {k c m e c' e' : Nat} {d1 d2 : Int} {a b : DV} (ha : Iw w n1 A k c d1 n2 B m e d2 a b A' c' B' e') (hT : Tabs w) :
  Calls Tryz.prog 172 #[iv n1 A k c d1 n2 B m e d2] w (IvRes (lo2 (negD a) (negD b)) (hi2 (negD a) (negD b)) w) := by
 obtain ⟨u, hu⟩ : ∃ u, negD a = u := ⟨_, rfl⟩
 obtain ⟨v, hv⟩ : ∃ v, negD b = v := ⟨_, rfl⟩
 have Wu : Hid (u.ok ∧ len u.m ≤ 16777216) := ⟨hu ▸ negD_ok _, by have := lim_neg a; rw [hu] at this; have := ha.wa.2; omega⟩
 have Wv : Hid (v.ok ∧ len v.m ≤ 16777216) := ⟨hv ▸ negD_ok _, by have := lim_neg b; rw [hv] at this; have := ha.wb.2; omega⟩
 rw [hu, hv]
 have Eu := Lib.hid hu; have Ev := Lib.hid hv; clear hu hv
 have HA := Lib.hid ha; have HT := Lib.hid hT; clear ha hT
 obtain ⟨X0, XZ, XE⟩ := boxes2 w n1 n2 A B k c m e d1 d2
 have HX0 := Lib.hid X0; have HXZ := Lib.hid XZ; have HXE := Lib.hid XE
 clear X0 XZ XE
 go_enter Tryz.func172, Tryz.ntmps172
 go_upto_region 1 with fail
 go_cut [] (fun wx => OneI w a b A' c' B' e' wx)
 case first =>
  obtain ⟨⟨k0, k1, k2, k3, k4, k5⟩, kz⟩ := HX0.out
  go_wp2_with (go_at_call 87; (with_reducible refine (HA.out.itv _ HXE.out).mono ?_); rintro e1 w1 ⟨rfl, hx⟩; clear k0 k1 k2 k3 k4 k5 kz; obtain ⟨⟨k0, k1, k2, k3, k4, k5⟩, kz⟩ := HX0.out.ext hx; have HX := Lib.hid hx; clear hx)
  go_meet
  exact oneI_of HX0.out HXZ.out HXE.out HX.out
 case rest =>
  clear HX0 HXZ HXE
  obtain ⟨hE, hX0, hXZ⟩ := hcut
  have HE := Lib.hid hE; have HX0 := Lib.hid hX0; have HXZ := Lib.hid hXZ
  clear hE hX0 hXZ
  have HS : Hid (∀ w', Ext wc w' → w'.cell? ⟨w.heap.size, 0, none⟩ = some (.bool a.neg) ∧ w'.cell? ⟨w.heap.size, 1, none⟩ = some (.slice A' (len a.m) c') ∧ w'.cell? ⟨w.heap.size, 2, none⟩ = some (I a.den) ∧ w'.cell? ⟨w.heap.size, 3, none⟩ = some (.bool b.neg) ∧ w'.cell? ⟨w.heap.size, 4, none⟩ = some (.slice B' (len b.m) e') ∧ w'.cell? ⟨w.heap.size, 5, none⟩ = some (I b.den)) := fun w' e => by
   obtain ⟨⟨i0, i1, i2, i3, i4, i5⟩, iz⟩ := HX0.out.ext e
   exact ⟨i0, i1, i2, i3, i4, i5⟩
  have HS2 : Hid (∀ w1 u0 u1 u2 u3 u4 u5, Ext wc w1 → ((((((w1.setCell ⟨w.heap.size + 1, 0, none⟩ u0).setCell ⟨w.heap.size + 1, 1, none⟩ u1).setCell ⟨w.heap.size + 1, 2, none⟩ u2).setCell ⟨w.heap.size + 1, 3, none⟩ u3).setCell ⟨w.heap.size + 1, 4, none⟩ u4).setCell ⟨w.heap.size + 1, 5, none⟩ u5).cell? ⟨w.heap.size, 0, none⟩ = some (.bool a.neg) ∧ ((((((w1.setCell ⟨w.heap.size + 1, 0, none⟩ u0).setCell ⟨w.heap.size + 1, 1, none⟩ u1).setCell ⟨w.heap.size + 1, 2, none⟩ u2).setCell ⟨w.heap.size + 1, 3, none⟩ u3).setCell ⟨w.heap.size + 1, 4, none⟩ u4).setCell ⟨w.heap.size + 1, 5, none⟩ u5).cell? ⟨w.heap.size, 1, none⟩ = some (.slice A' (len a.m) c') ∧ ((((((w1.setCell ⟨w.heap.size + 1, 0, none⟩ u0).setCell ⟨w.heap.size + 1, 1, none⟩ u1).setCell ⟨w.heap.size + 1, 2, none⟩ u2).setCell ⟨w.heap.size + 1, 3, none⟩ u3).setCell ⟨w.heap.size + 1, 4, none⟩ u4).setCell ⟨w.heap.size + 1, 5, none⟩ u5).cell? ⟨w.heap.size, 2, none⟩ = some (I a.den) ∧ ((((((w1.setCell ⟨w.heap.size + 1, 0, none⟩ u0).setCell ⟨w.heap.size + 1, 1, none⟩ u1).setCell ⟨w.heap.size + 1, 2, none⟩ u2).setCell ⟨w.heap.size + 1, 3, none⟩ u3).setCell ⟨w.heap.size + 1, 4, none⟩ u4).setCell ⟨w.heap.size + 1, 5, none⟩ u5).cell? ⟨w.heap.size, 3, none⟩ = some (.bool b.neg) ∧ ((((((w1.setCell ⟨w.heap.size + 1, 0, none⟩ u0).setCell ⟨w.heap.size + 1, 1, none⟩ u1).setCell ⟨w.heap.size + 1, 2, none⟩ u2).setCell ⟨w.heap.size + 1, 3, none⟩ u3).setCell ⟨w.heap.size + 1, 4, none⟩ u4).setCell ⟨w.heap.size + 1, 5, none⟩ u5).cell? ⟨w.heap.size, 4, none⟩ = some (.slice B' (len b.m) e') ∧ ((((((w1.setCell ⟨w.heap.size + 1, 0, none⟩ u0).setCell ⟨w.heap.size + 1, 1, none⟩ u1).setCell ⟨w.heap.size + 1, 2, none⟩ u2).setCell ⟨w.heap.size + 1, 3, none⟩ u3).setCell ⟨w.heap.size + 1, 4, none⟩ u4).setCell ⟨w.heap.size + 1, 5, none⟩ u5).cell? ⟨w.heap.size, 5, none⟩ = some (I b.den)) := fun w1 u0 u1 u2 u3 u4 u5 e => by
   obtain ⟨⟨i0, i1, i2, i3, i4, i5⟩, iz⟩ := (HX0.out.ext e).far6 (g' := w.heap.size + 1) (by omega) u0 u1 u2 u3 u4 u5
   exact ⟨i0, i1, i2, i3, i4, i5⟩
  have hlx := HXZ.out.lt; have hnx := Nat.ne_of_lt hlx; have hq1 : ¬ w.heap.size + 1 + 1 = w.heap.size := (by omega); have hq2 : ¬ w.heap.size = w.heap.size + 1 + 1 := (by omega)
  go_wp2_with fail
  go_region_held3 (fun w' => w'.cell? ⟨w.heap.size, 0, none⟩ = some (.bool a.neg) ∧ w'.cell? ⟨w.heap.size, 1, none⟩ = some (.slice A' (len a.m) c') ∧ w'.cell? ⟨w.heap.size, 2, none⟩ = some (I a.den) ∧ w'.cell? ⟨w.heap.size, 3, none⟩ = some (.bool b.neg) ∧ w'.cell? ⟨w.heap.size, 4, none⟩ = some (.slice B' (len b.m) e') ∧ w'.cell? ⟨w.heap.size, 5, none⟩ = some (I b.den)) (first | with_reducible assumption | exact HS.out _ ex2 | exact HS2.out _ _ _ _ _ _ _ ex2)
   (first
    | (have hg := hx2; clear hg; go_at_call 182; (with_reducible refine (least1 (D1.out.ext ex2) (D2.out.ext ex2) (HT.out.ext (HE.out.trans ex2)) (St.new _ _ _ _ _)).mono ?_); rintro e1 w3 ⟨A3, c3, B3, k3, rfl, hfa, hfb, hx3⟩; have FA := Lib.hid hfa; have FB := Lib.hid hfb; clear hfa hfb; obtain ⟨⟨r0, r1, r2, r3, r4, r5⟩, rz⟩ := HXZ.out.ext (w' := w3) ex2)
    | (have hg := hx1; clear hg; go_at_call 142; (with_reducible refine (neg_any (HA.out.dyb.ext (HE.out.trans ex2)) (HT.out.ext (HE.out.trans ex2))).mono ?_); rw [Ev.out]; rintro e1 w2 ⟨A2, c2, rfl, hon, hx2⟩; have O2 := Lib.hid hon; have D2 := Lib.hid (Dy.of_on hon Wv.out.1 Wv.out.2 (Ext.refl _)); clear hon)
    | (go_at_call 142; (with_reducible refine (neg_any (HA.out.dya.ext (HE.out.trans ex2)) (HT.out.ext (HE.out.trans ex2))).mono ?_); rw [Eu.out]; rintro e1 w1 ⟨A1, c1, rfl, hon, hx1⟩; have O1 := Lib.hid hon; have D1 := Lib.hid (Dy.of_on hon Wu.out.1 Wu.out.2 (Ext.refl _)); clear hon))
  all_goals
   have HF := Lib.hid (HE.out.trans (show Ext wc w3 from ex2))
   have hz2 := Ext.size (show Ext wc w2 from ex2)
   go_wp2_with fail
   exact bodyPost_ret (v := ivd (lo2 u v) A3 c3 (hi2 u v) B3 k3) (by simp [results, Tryz.results172, go_sem, r0, r1, r2, r3, r4, r5]) rfl (IvRes.end6 rfl FA.out FB.out HF.out (by omega) (by (try simp); omega) (by (try simp); omega))
end
section
open Go.RowKit
attribute [local go_sem ↓] Go.wp_at_zero Go.wp_at_succ
set_option maxRecDepth 100000 in
set_option maxHeartbeats 1000000 in
theorem iadd_any {w : World} {n1 n2 : Bool} {A B A' B' : Option Addr} {k c m e c' e' : Nat} {d1 d2 : Int} {a b : DV} {n3 n4 : Bool} {X Y X' Y' : Option Addr} {p q r s q' s' : Nat} {d3 d4 : Int} {x y : DV} (ha : Iw w n1 A k c d1 n2 B m e d2 a b A' c' B' e') (hb : Iw w n3 X p q d3 n4 Y r s d4 x y X' q' Y' s') (hT : Tabs w) :
  Calls Tryz.prog 170 #[iv n1 A k c d1 n2 B m e d2, iv n3 X p q d3 n4 Y r s d4] w (IvRes (lo2 (addD a x) (addD b y)) (hi2 (addD a x) (addD b y)) w) := by
 obtain ⟨u, hu⟩ : ∃ u, addD a x = u := ⟨_, rfl⟩
 obtain ⟨v, hv⟩ : ∃ v, addD b y = v := ⟨_, rfl⟩
 have Wu : Hid (u.ok ∧ len u.m ≤ 16777216) := by show _ ∧ _; rw [← hu]; have := ha.wa.2; have := hb.wa.2; exact ⟨(And.intro ha.wa.1 hb.wa.1 |> fun _ => addD_ok _ _), by have := lim_add (a := a) (b := x) ha.wa.1.2.1 hb.wa.1.2.1; omega⟩
 have Wv : Hid (v.ok ∧ len v.m ≤ 16777216) := by show _ ∧ _; rw [← hv]; have := ha.wb.2; have := hb.wb.2; exact ⟨(And.intro ha.wb.1 hb.wb.1 |> fun _ => addD_ok _ _), by have := lim_add (a := b) (b := y) ha.wb.1.2.1 hb.wb.1.2.1; omega⟩
 rw [hu, hv]
 have Eu := Lib.hid hu; have Ev := Lib.hid hv; clear hu hv
 have HA := Lib.hid ha; have HB := Lib.hid hb; have HT := Lib.hid hT; clear ha hb hT
 obtain ⟨X0, X1, XZ, XE⟩ := boxes3 w n1 n2 A B k c m e d1 d2 n3 n4 X Y p q r s d3 d4
 have HX0 := Lib.hid X0; have HX1 := Lib.hid X1; have HXZ := Lib.hid XZ; have HXE := Lib.hid XE
 clear X0 X1 XZ XE
 go_enter Tryz.func170, Tryz.ntmps170
 go_upto_region 1 with fail
 go_cut [] (fun wx => TwoI w a b A' c' B' e' x y X' q' Y' s' wx)
 case first =>
  go_region_with (first
   | (go_at_call 87; (with_reducible refine (HA.out.itv _ (HXE.out.trans ex2)).mono ?_); rintro e1 wa ⟨rfl, hxwa⟩; obtain ⟨⟨ak0, ak1, ak2, ak3, ak4, ak5⟩, akz⟩ := HX0.out.ext (w' := wa) ex2; obtain ⟨⟨al0, al1, al2, al3, al4, al5⟩, alz⟩ := HX1.out.ext (w' := wa) ex2)
   | (go_at_call 87; (with_reducible refine (HB.out.itv _ (HXE.out.trans ex2)).mono ?_); rintro e1 wb ⟨rfl, hxwb⟩; obtain ⟨⟨bk0, bk1, bk2, bk3, bk4, bk5⟩, bkz⟩ := HX0.out.ext (w' := wb) ex2; obtain ⟨⟨bl0, bl1, bl2, bl3, bl4, bl5⟩, blz⟩ := HX1.out.ext (w' := wb) ex2))
  all_goals
   go_wp2_with fail
   go_meet
   exact twoI_of HX0.out HX1.out HXZ.out HXE.out ex2
 case rest =>
  clear HX0 HX1 HXZ HXE
  obtain ⟨hE, hX0, hX1, hXZ⟩ := hcut
  have HE := Lib.hid hE; have HX0 := Lib.hid hX0; have HX1 := Lib.hid hX1; have HXZ := Lib.hid hXZ
  clear hE hX0 hX1 hXZ
  have HS : Hid (∀ w', Ext wc w' → w'.cell? ⟨w.heap.size, 0, none⟩ = some (.bool a.neg) ∧ w'.cell? ⟨w.heap.size, 1, none⟩ = some (.slice A' (len a.m) c') ∧ w'.cell? ⟨w.heap.size, 2, none⟩ = some (I a.den) ∧ w'.cell? ⟨w.heap.size, 3, none⟩ = some (.bool b.neg) ∧ w'.cell? ⟨w.heap.size, 4, none⟩ = some (.slice B' (len b.m) e') ∧ w'.cell? ⟨w.heap.size, 5, none⟩ = some (I b.den) ∧ w'.cell? ⟨w.heap.size + 1, 0, none⟩ = some (.bool x.neg) ∧ w'.cell? ⟨w.heap.size + 1, 1, none⟩ = some (.slice X' (len x.m) q') ∧ w'.cell? ⟨w.heap.size + 1, 2, none⟩ = some (I x.den) ∧ w'.cell? ⟨w.heap.size + 1, 3, none⟩ = some (.bool y.neg) ∧ w'.cell? ⟨w.heap.size + 1, 4, none⟩ = some (.slice Y' (len y.m) s') ∧ w'.cell? ⟨w.heap.size + 1, 5, none⟩ = some (I y.den)) := fun w' e => by
   obtain ⟨⟨i0, i1, i2, i3, i4, i5⟩, iz⟩ := HX0.out.ext e
   obtain ⟨⟨j0, j1, j2, j3, j4, j5⟩, jz⟩ := HX1.out.ext e
   exact ⟨i0, i1, i2, i3, i4, i5, j0, j1, j2, j3, j4, j5⟩
  have HS2 : Hid (∀ w1 u0 u1 u2 u3 u4 u5, Ext wc w1 → ((((((w1.setCell ⟨w.heap.size + 1 + 1, 0, none⟩ u0).setCell ⟨w.heap.size + 1 + 1, 1, none⟩ u1).setCell ⟨w.heap.size + 1 + 1, 2, none⟩ u2).setCell ⟨w.heap.size + 1 + 1, 3, none⟩ u3).setCell ⟨w.heap.size + 1 + 1, 4, none⟩ u4).setCell ⟨w.heap.size + 1 + 1, 5, none⟩ u5).cell? ⟨w.heap.size, 0, none⟩ = some (.bool a.neg) ∧ ((((((w1.setCell ⟨w.heap.size + 1 + 1, 0, none⟩ u0).setCell ⟨w.heap.size + 1 + 1, 1, none⟩ u1).setCell ⟨w.heap.size + 1 + 1, 2, none⟩ u2).setCell ⟨w.heap.size + 1 + 1, 3, none⟩ u3).setCell ⟨w.heap.size + 1 + 1, 4, none⟩ u4).setCell ⟨w.heap.size + 1 + 1, 5, none⟩ u5).cell? ⟨w.heap.size, 1, none⟩ = some (.slice A' (len a.m) c') ∧ ((((((w1.setCell ⟨w.heap.size + 1 + 1, 0, none⟩ u0).setCell ⟨w.heap.size + 1 + 1, 1, none⟩ u1).setCell ⟨w.heap.size + 1 + 1, 2, none⟩ u2).setCell ⟨w.heap.size + 1 + 1, 3, none⟩ u3).setCell ⟨w.heap.size + 1 + 1, 4, none⟩ u4).setCell ⟨w.heap.size + 1 + 1, 5, none⟩ u5).cell? ⟨w.heap.size, 2, none⟩ = some (I a.den) ∧ ((((((w1.setCell ⟨w.heap.size + 1 + 1, 0, none⟩ u0).setCell ⟨w.heap.size + 1 + 1, 1, none⟩ u1).setCell ⟨w.heap.size + 1 + 1, 2, none⟩ u2).setCell ⟨w.heap.size + 1 + 1, 3, none⟩ u3).setCell ⟨w.heap.size + 1 + 1, 4, none⟩ u4).setCell ⟨w.heap.size + 1 + 1, 5, none⟩ u5).cell? ⟨w.heap.size, 3, none⟩ = some (.bool b.neg) ∧ ((((((w1.setCell ⟨w.heap.size + 1 + 1, 0, none⟩ u0).setCell ⟨w.heap.size + 1 + 1, 1, none⟩ u1).setCell ⟨w.heap.size + 1 + 1, 2, none⟩ u2).setCell ⟨w.heap.size + 1 + 1, 3, none⟩ u3).setCell ⟨w.heap.size + 1 + 1, 4, none⟩ u4).setCell ⟨w.heap.size + 1 + 1, 5, none⟩ u5).cell? ⟨w.heap.size, 4, none⟩ = some (.slice B' (len b.m) e') ∧ ((((((w1.setCell ⟨w.heap.size + 1 + 1, 0, none⟩ u0).setCell ⟨w.heap.size + 1 + 1, 1, none⟩ u1).setCell ⟨w.heap.size + 1 + 1, 2, none⟩ u2).setCell ⟨w.heap.size + 1 + 1, 3, none⟩ u3).setCell ⟨w.heap.size + 1 + 1, 4, none⟩ u4).setCell ⟨w.heap.size + 1 + 1, 5, none⟩ u5).cell? ⟨w.heap.size, 5, none⟩ = some (I b.den) ∧ ((((((w1.setCell ⟨w.heap.size + 1 + 1, 0, none⟩ u0).setCell ⟨w.heap.size + 1 + 1, 1, none⟩ u1).setCell ⟨w.heap.size + 1 + 1, 2, none⟩ u2).setCell ⟨w.heap.size + 1 + 1, 3, none⟩ u3).setCell ⟨w.heap.size + 1 + 1, 4, none⟩ u4).setCell ⟨w.heap.size + 1 + 1, 5, none⟩ u5).cell? ⟨w.heap.size + 1, 0, none⟩ = some (.bool x.neg) ∧ ((((((w1.setCell ⟨w.heap.size + 1 + 1, 0, none⟩ u0).setCell ⟨w.heap.size + 1 + 1, 1, none⟩ u1).setCell ⟨w.heap.size + 1 + 1, 2, none⟩ u2).setCell ⟨w.heap.size + 1 + 1, 3, none⟩ u3).setCell ⟨w.heap.size + 1 + 1, 4, none⟩ u4).setCell ⟨w.heap.size + 1 + 1, 5, none⟩ u5).cell? ⟨w.heap.size + 1, 1, none⟩ = some (.slice X' (len x.m) q') ∧ ((((((w1.setCell ⟨w.heap.size + 1 + 1, 0, none⟩ u0).setCell ⟨w.heap.size + 1 + 1, 1, none⟩ u1).setCell ⟨w.heap.size + 1 + 1, 2, none⟩ u2).setCell ⟨w.heap.size + 1 + 1, 3, none⟩ u3).setCell ⟨w.heap.size + 1 + 1, 4, none⟩ u4).setCell ⟨w.heap.size + 1 + 1, 5, none⟩ u5).cell? ⟨w.heap.size + 1, 2, none⟩ = some (I x.den) ∧ ((((((w1.setCell ⟨w.heap.size + 1 + 1, 0, none⟩ u0).setCell ⟨w.heap.size + 1 + 1, 1, none⟩ u1).setCell ⟨w.heap.size + 1 + 1, 2, none⟩ u2).setCell ⟨w.heap.size + 1 + 1, 3, none⟩ u3).setCell ⟨w.heap.size + 1 + 1, 4, none⟩ u4).setCell ⟨w.heap.size + 1 + 1, 5, none⟩ u5).cell? ⟨w.heap.size + 1, 3, none⟩ = some (.bool y.neg) ∧ ((((((w1.setCell ⟨w.heap.size + 1 + 1, 0, none⟩ u0).setCell ⟨w.heap.size + 1 + 1, 1, none⟩ u1).setCell ⟨w.heap.size + 1 + 1, 2, none⟩ u2).setCell ⟨w.heap.size + 1 + 1, 3, none⟩ u3).setCell ⟨w.heap.size + 1 + 1, 4, none⟩ u4).setCell ⟨w.heap.size + 1 + 1, 5, none⟩ u5).cell? ⟨w.heap.size + 1, 4, none⟩ = some (.slice Y' (len y.m) s') ∧ ((((((w1.setCell ⟨w.heap.size + 1 + 1, 0, none⟩ u0).setCell ⟨w.heap.size + 1 + 1, 1, none⟩ u1).setCell ⟨w.heap.size + 1 + 1, 2, none⟩ u2).setCell ⟨w.heap.size + 1 + 1, 3, none⟩ u3).setCell ⟨w.heap.size + 1 + 1, 4, none⟩ u4).setCell ⟨w.heap.size + 1 + 1, 5, none⟩ u5).cell? ⟨w.heap.size + 1, 5, none⟩ = some (I y.den)) := fun w1 u0 u1 u2 u3 u4 u5 e => by
   obtain ⟨⟨i0, i1, i2, i3, i4, i5⟩, iz⟩ := (HX0.out.ext e).far6 (g' := w.heap.size + 1 + 1) (by omega) u0 u1 u2 u3 u4 u5
   obtain ⟨⟨j0, j1, j2, j3, j4, j5⟩, jz⟩ := (HX1.out.ext e).far6 (g' := w.heap.size + 1 + 1) (by omega) u0 u1 u2 u3 u4 u5
   exact ⟨i0, i1, i2, i3, i4, i5, j0, j1, j2, j3, j4, j5⟩
  have hlx := HXZ.out.lt; have hnx := Nat.ne_of_lt hlx; have hq1 : ¬ w.heap.size + 1 + 1 = w.heap.size := (by omega); have hq2 : ¬ w.heap.size = w.heap.size + 1 + 1 := (by omega)
  go_wp2_with fail
  go_region_held3 (fun w' => w'.cell? ⟨w.heap.size, 0, none⟩ = some (.bool a.neg) ∧ w'.cell? ⟨w.heap.size, 1, none⟩ = some (.slice A' (len a.m) c') ∧ w'.cell? ⟨w.heap.size, 2, none⟩ = some (I a.den) ∧ w'.cell? ⟨w.heap.size, 3, none⟩ = some (.bool b.neg) ∧ w'.cell? ⟨w.heap.size, 4, none⟩ = some (.slice B' (len b.m) e') ∧ w'.cell? ⟨w.heap.size, 5, none⟩ = some (I b.den) ∧ w'.cell? ⟨w.heap.size + 1, 0, none⟩ = some (.bool x.neg) ∧ w'.cell? ⟨w.heap.size + 1, 1, none⟩ = some (.slice X' (len x.m) q') ∧ w'.cell? ⟨w.heap.size + 1, 2, none⟩ = some (I x.den) ∧ w'.cell? ⟨w.heap.size + 1, 3, none⟩ = some (.bool y.neg) ∧ w'.cell? ⟨w.heap.size + 1, 4, none⟩ = some (.slice Y' (len y.m) s') ∧ w'.cell? ⟨w.heap.size + 1, 5, none⟩ = some (I y.den)) (first | with_reducible assumption | exact HS.out _ ex2 | exact HS2.out _ _ _ _ _ _ _ ex2)
   (first
    | (have hg := hx2; clear hg; go_at_call 182; (with_reducible refine (least1 (D1.out.ext ex2) (D2.out.ext ex2) (HT.out.ext (HE.out.trans ex2)) (St.new _ _ _ _ _)).mono ?_); rintro e1 w3 ⟨A3, c3, B3, k3, rfl, hfa, hfb, hx3⟩; have FA := Lib.hid hfa; have FB := Lib.hid hfb; clear hfa hfb; obtain ⟨⟨r0, r1, r2, r3, r4, r5⟩, rz⟩ := HXZ.out.ext (w' := w3) ex2)
    | (have hg := hx1; clear hg; go_at_call 201; (with_reducible refine (add_any (HA.out.dyb.ext (HE.out.trans ex2)) (HB.out.dyb.ext (HE.out.trans ex2)) (HT.out.ext (HE.out.trans ex2))).mono ?_); rw [Ev.out]; rintro e1 w2 ⟨A2, c2, rfl, hon, hx2⟩; have O2 := Lib.hid hon; have D2 := Lib.hid (Dy.of_on hon Wv.out.1 Wv.out.2 (Ext.refl _)); clear hon)
    | (go_at_call 201; (with_reducible refine (add_any (HA.out.dya.ext (HE.out.trans ex2)) (HB.out.dya.ext (HE.out.trans ex2)) (HT.out.ext (HE.out.trans ex2))).mono ?_); rw [Eu.out]; rintro e1 w1 ⟨A1, c1, rfl, hon, hx1⟩; have O1 := Lib.hid hon; have D1 := Lib.hid (Dy.of_on hon Wu.out.1 Wu.out.2 (Ext.refl _)); clear hon))
  all_goals
   have HF := Lib.hid (HE.out.trans (show Ext wc w3 from ex2))
   have hz2 := Ext.size (show Ext wc w2 from ex2)
   go_wp2_with fail
   exact bodyPost_ret (v := ivd (lo2 u v) A3 c3 (hi2 u v) B3 k3) (by simp [results, Tryz.results170, go_sem, r0, r1, r2, r3, r4, r5]) rfl (IvRes.end6 rfl FA.out FB.out HF.out (by omega) (by (try simp); omega) (by (try simp); omega))
end
section
open Go.RowKit
attribute [local go_sem ↓] Go.wp_at_zero Go.wp_at_succ
set_option maxRecDepth 100000 in
set_option maxHeartbeats 1000000 in
theorem isub_any {w : World} {n1 n2 : Bool} {A B A' B' : Option Addr} {k c m e c' e' : Nat} {d1 d2 : Int} {a b : DV} {n3 n4 : Bool} {X Y X' Y' : Option Addr} {p q r s q' s' : Nat} {d3 d4 : Int} {x y : DV} (ha : Iw w n1 A k c d1 n2 B m e d2 a b A' c' B' e') (hb : Iw w n3 X p q d3 n4 Y r s d4 x y X' q' Y' s') (hT : Tabs w) :
  Calls Tryz.prog 171 #[iv n1 A k c d1 n2 B m e d2, iv n3 X p q d3 n4 Y r s d4] w (IvRes (lo2 (addD a (lo2 (negD x) (negD y))) (addD b (hi2 (negD x) (negD y)))) (hi2 (addD a (lo2 (negD x) (negD y))) (addD b (hi2 (negD x) (negD y)))) w) := by
 obtain ⟨u, hu⟩ : ∃ u, lo2 (negD x) (negD y) = u := ⟨_, rfl⟩
 obtain ⟨v, hv⟩ : ∃ v, hi2 (negD x) (negD y) = v := ⟨_, rfl⟩
 have nx (d : DV) (h : End d) : End (negD d) := ⟨negD_ok _, Nat.le_trans (lim_neg d) h.2⟩
 have Wu : Hid (End u) := by show End _; rw [← hu]; exact sz_min (P := End) (nx _ hb.wa) (nx _ hb.wb)
 have Wv : Hid (End v) := by show End _; rw [← hv]; exact sz_max (P := End) (nx _ hb.wa) (nx _ hb.wb)
 have Qu : Hid (u.q ≤ v.q) := by show _ ≤ _; rw [← hu, ← hv]; exact lo2_le (negD_ok _) (negD_ok _)
 rw [hu, hv]
 obtain ⟨L, hL⟩ : ∃ L, lo2 (addD a u) (addD b v) = L := ⟨_, rfl⟩
 obtain ⟨H, hH⟩ : ∃ H, hi2 (addD a u) (addD b v) = H := ⟨_, rfl⟩
 rw [hL, hH]
 have Eu := Lib.hid hu; have Ev := Lib.hid hv; have EL := Lib.hid hL; have EH := Lib.hid hH; clear hu hv hL hH nx
 have HA := Lib.hid ha; have HB := Lib.hid hb; have HT := Lib.hid hT; clear ha hb hT
 obtain ⟨X0, X1, XZ, XE⟩ := boxes3 w n1 n2 A B k c m e d1 d2 n3 n4 X Y p q r s d3 d4
 have HX0 := Lib.hid X0; have HX1 := Lib.hid X1; have HXZ := Lib.hid XZ; have HE := Lib.hid XE
 clear X0 X1 XZ XE
 generalize hWc : ((w.alloc (.cells #[.bool n1, .slice A k c, I d1, .bool n2, .slice B m e, I d2] 58)).alloc (.cells #[.bool n3, .slice X p q, I d3, .bool n4, .slice Y r s, I d4] 58)).alloc (.cells #[.bool false, .slice none 0 0, I 0, .bool false, .slice none 0 0, I 0] 58) = wc at HX0 HX1 HXZ HE
 go_enter Tryz.func171, Tryz.ntmps171
 go_upto_region 1 with fail
 (try rw [hWc])
 clear hWc
 have HS : Hid (∀ w', Ext wc w' → w'.cell? ⟨w.heap.size, 0, none⟩ = some (.bool n1) ∧ w'.cell? ⟨w.heap.size, 1, none⟩ = some (.slice A k c) ∧ w'.cell? ⟨w.heap.size, 2, none⟩ = some (I d1) ∧ w'.cell? ⟨w.heap.size, 3, none⟩ = some (.bool n2) ∧ w'.cell? ⟨w.heap.size, 4, none⟩ = some (.slice B m e) ∧ w'.cell? ⟨w.heap.size, 5, none⟩ = some (I d2) ∧ w'.cell? ⟨w.heap.size + 1, 0, none⟩ = some (.bool n3) ∧ w'.cell? ⟨w.heap.size + 1, 1, none⟩ = some (.slice X p q) ∧ w'.cell? ⟨w.heap.size + 1, 2, none⟩ = some (I d3) ∧ w'.cell? ⟨w.heap.size + 1, 3, none⟩ = some (.bool n4) ∧ w'.cell? ⟨w.heap.size + 1, 4, none⟩ = some (.slice Y r s) ∧ w'.cell? ⟨w.heap.size + 1, 5, none⟩ = some (I d4)) := fun w' e => by
  obtain ⟨⟨i0, i1, i2, i3, i4, i5⟩, iz⟩ := HX0.out.ext e
  obtain ⟨⟨j0, j1, j2, j3, j4, j5⟩, jz⟩ := HX1.out.ext e
  exact ⟨i0, i1, i2, i3, i4, i5, j0, j1, j2, j3, j4, j5⟩
 have HS2 : Hid (∀ w1 u0 u1 u2 u3 u4 u5, Ext wc w1 → ((((((w1.setCell ⟨w.heap.size + 1 + 1, 0, none⟩ u0).setCell ⟨w.heap.size + 1 + 1, 1, none⟩ u1).setCell ⟨w.heap.size + 1 + 1, 2, none⟩ u2).setCell ⟨w.heap.size + 1 + 1, 3, none⟩ u3).setCell ⟨w.heap.size + 1 + 1, 4, none⟩ u4).setCell ⟨w.heap.size + 1 + 1, 5, none⟩ u5).cell? ⟨w.heap.size, 0, none⟩ = some (.bool n1) ∧ ((((((w1.setCell ⟨w.heap.size + 1 + 1, 0, none⟩ u0).setCell ⟨w.heap.size + 1 + 1, 1, none⟩ u1).setCell ⟨w.heap.size + 1 + 1, 2, none⟩ u2).setCell ⟨w.heap.size + 1 + 1, 3, none⟩ u3).setCell ⟨w.heap.size + 1 + 1, 4, none⟩ u4).setCell ⟨w.heap.size + 1 + 1, 5, none⟩ u5).cell? ⟨w.heap.size, 1, none⟩ = some (.slice A k c) ∧ ((((((w1.setCell ⟨w.heap.size + 1 + 1, 0, none⟩ u0).setCell ⟨w.heap.size + 1 + 1, 1, none⟩ u1).setCell ⟨w.heap.size + 1 + 1, 2, none⟩ u2).setCell ⟨w.heap.size + 1 + 1, 3, none⟩ u3).setCell ⟨w.heap.size + 1 + 1, 4, none⟩ u4).setCell ⟨w.heap.size + 1 + 1, 5, none⟩ u5).cell? ⟨w.heap.size, 2, none⟩ = some (I d1) ∧ ((((((w1.setCell ⟨w.heap.size + 1 + 1, 0, none⟩ u0).setCell ⟨w.heap.size + 1 + 1, 1, none⟩ u1).setCell ⟨w.heap.size + 1 + 1, 2, none⟩ u2).setCell ⟨w.heap.size + 1 + 1, 3, none⟩ u3).setCell ⟨w.heap.size + 1 + 1, 4, none⟩ u4).setCell ⟨w.heap.size + 1 + 1, 5, none⟩ u5).cell? ⟨w.heap.size, 3, none⟩ = some (.bool n2) ∧ ((((((w1.setCell ⟨w.heap.size + 1 + 1, 0, none⟩ u0).setCell ⟨w.heap.size + 1 + 1, 1, none⟩ u1).setCell ⟨w.heap.size + 1 + 1, 2, none⟩ u2).setCell ⟨w.heap.size + 1 + 1, 3, none⟩ u3).setCell ⟨w.heap.size + 1 + 1, 4, none⟩ u4).setCell ⟨w.heap.size + 1 + 1, 5, none⟩ u5).cell? ⟨w.heap.size, 4, none⟩ = some (.slice B m e) ∧ ((((((w1.setCell ⟨w.heap.size + 1 + 1, 0, none⟩ u0).setCell ⟨w.heap.size + 1 + 1, 1, none⟩ u1).setCell ⟨w.heap.size + 1 + 1, 2, none⟩ u2).setCell ⟨w.heap.size + 1 + 1, 3, none⟩ u3).setCell ⟨w.heap.size + 1 + 1, 4, none⟩ u4).setCell ⟨w.heap.size + 1 + 1, 5, none⟩ u5).cell? ⟨w.heap.size, 5, none⟩ = some (I d2) ∧ ((((((w1.setCell ⟨w.heap.size + 1 + 1, 0, none⟩ u0).setCell ⟨w.heap.size + 1 + 1, 1, none⟩ u1).setCell ⟨w.heap.size + 1 + 1, 2, none⟩ u2).setCell ⟨w.heap.size + 1 + 1, 3, none⟩ u3).setCell ⟨w.heap.size + 1 + 1, 4, none⟩ u4).setCell ⟨w.heap.size + 1 + 1, 5, none⟩ u5).cell? ⟨w.heap.size + 1, 0, none⟩ = some (.bool n3) ∧ ((((((w1.setCell ⟨w.heap.size + 1 + 1, 0, none⟩ u0).setCell ⟨w.heap.size + 1 + 1, 1, none⟩ u1).setCell ⟨w.heap.size + 1 + 1, 2, none⟩ u2).setCell ⟨w.heap.size + 1 + 1, 3, none⟩ u3).setCell ⟨w.heap.size + 1 + 1, 4, none⟩ u4).setCell ⟨w.heap.size + 1 + 1, 5, none⟩ u5).cell? ⟨w.heap.size + 1, 1, none⟩ = some (.slice X p q) ∧ ((((((w1.setCell ⟨w.heap.size + 1 + 1, 0, none⟩ u0).setCell ⟨w.heap.size + 1 + 1, 1, none⟩ u1).setCell ⟨w.heap.size + 1 + 1, 2, none⟩ u2).setCell ⟨w.heap.size + 1 + 1, 3, none⟩ u3).setCell ⟨w.heap.size + 1 + 1, 4, none⟩ u4).setCell ⟨w.heap.size + 1 + 1, 5, none⟩ u5).cell? ⟨w.heap.size + 1, 2, none⟩ = some (I d3) ∧ ((((((w1.setCell ⟨w.heap.size + 1 + 1, 0, none⟩ u0).setCell ⟨w.heap.size + 1 + 1, 1, none⟩ u1).setCell ⟨w.heap.size + 1 + 1, 2, none⟩ u2).setCell ⟨w.heap.size + 1 + 1, 3, none⟩ u3).setCell ⟨w.heap.size + 1 + 1, 4, none⟩ u4).setCell ⟨w.heap.size + 1 + 1, 5, none⟩ u5).cell? ⟨w.heap.size + 1, 3, none⟩ = some (.bool n4) ∧ ((((((w1.setCell ⟨w.heap.size + 1 + 1, 0, none⟩ u0).setCell ⟨w.heap.size + 1 + 1, 1, none⟩ u1).setCell ⟨w.heap.size + 1 + 1, 2, none⟩ u2).setCell ⟨w.heap.size + 1 + 1, 3, none⟩ u3).setCell ⟨w.heap.size + 1 + 1, 4, none⟩ u4).setCell ⟨w.heap.size + 1 + 1, 5, none⟩ u5).cell? ⟨w.heap.size + 1, 4, none⟩ = some (.slice Y r s) ∧ ((((((w1.setCell ⟨w.heap.size + 1 + 1, 0, none⟩ u0).setCell ⟨w.heap.size + 1 + 1, 1, none⟩ u1).setCell ⟨w.heap.size + 1 + 1, 2, none⟩ u2).setCell ⟨w.heap.size + 1 + 1, 3, none⟩ u3).setCell ⟨w.heap.size + 1 + 1, 4, none⟩ u4).setCell ⟨w.heap.size + 1 + 1, 5, none⟩ u5).cell? ⟨w.heap.size + 1, 5, none⟩ = some (I d4)) := fun w1 u0 u1 u2 u3 u4 u5 e => by
  obtain ⟨⟨i0, i1, i2, i3, i4, i5⟩, iz⟩ := (HX0.out.ext e).far6 (g' := w.heap.size + 1 + 1) (by omega) u0 u1 u2 u3 u4 u5
  obtain ⟨⟨j0, j1, j2, j3, j4, j5⟩, jz⟩ := (HX1.out.ext e).far6 (g' := w.heap.size + 1 + 1) (by omega) u0 u1 u2 u3 u4 u5
  exact ⟨i0, i1, i2, i3, i4, i5, j0, j1, j2, j3, j4, j5⟩
 have hlx := HXZ.out.lt; have hnx := Nat.ne_of_lt hlx; have hq1 : ¬ w.heap.size + 1 + 1 = w.heap.size := (by omega); have hq2 : ¬ w.heap.size = w.heap.size + 1 + 1 := (by omega)
 go_wp2_with fail
 go_region_held3 (fun w' => w'.cell? ⟨w.heap.size, 0, none⟩ = some (.bool n1) ∧ w'.cell? ⟨w.heap.size, 1, none⟩ = some (.slice A k c) ∧ w'.cell? ⟨w.heap.size, 2, none⟩ = some (I d1) ∧ w'.cell? ⟨w.heap.size, 3, none⟩ = some (.bool n2) ∧ w'.cell? ⟨w.heap.size, 4, none⟩ = some (.slice B m e) ∧ w'.cell? ⟨w.heap.size, 5, none⟩ = some (I d2) ∧ w'.cell? ⟨w.heap.size + 1, 0, none⟩ = some (.bool n3) ∧ w'.cell? ⟨w.heap.size + 1, 1, none⟩ = some (.slice X p q) ∧ w'.cell? ⟨w.heap.size + 1, 2, none⟩ = some (I d3) ∧ w'.cell? ⟨w.heap.size + 1, 3, none⟩ = some (.bool n4) ∧ w'.cell? ⟨w.heap.size + 1, 4, none⟩ = some (.slice Y r s) ∧ w'.cell? ⟨w.heap.size + 1, 5, none⟩ = some (I d4)) (first | with_reducible assumption | exact HS.out _ ex2 | exact HS2.out _ _ _ _ _ _ _ ex2)
  (first
   | (have hg := hx1; clear hg; go_at_call 170; (with_reducible refine (iadd_any (HA.out.ext (HE.out.trans ex2)) (D1.out.ext (Ext.refl _)) (HT.out.ext (HE.out.trans ex2))).mono ?_); rw [EL.out, EH.out]; rintro e1 w2 ⟨A3, c3, B3, k3, rfl, hfa, hfb, hx2⟩; have FA := Lib.hid hfa; have FB := Lib.hid hfb; clear hfa hfb; obtain ⟨⟨r0, r1, r2, r3, r4, r5⟩, rz⟩ := HXZ.out.ext (w' := w2) ex2)
   | (go_at_call 172; (with_reducible refine (ineg_any (HB.out.ext (HE.out.trans ex2)) (HT.out.ext (HE.out.trans ex2))).mono ?_); rw [Eu.out, Ev.out]; rintro e1 w1 ⟨A1, c1, B1, k1, rfl, hfa, hfb, hx1⟩; have D1 := Lib.hid (IvRes.at_ hfa hfb Wu.out Wv.out Qu.out (Ext.refl _)); clear hfa hfb))
 all_goals
  have HF := Lib.hid (HE.out.trans (show Ext wc w2 from ex2))
  have hz2 := Ext.size (show Ext wc w1 from ex2)
  go_wp2_with fail
  exact bodyPost_ret (v := ivd L A3 c3 H B3 k3) (by simp [results, Tryz.results171, go_sem, r0, r1, r2, r3, r4, r5]) rfl (IvRes.end6 rfl FA.out FB.out HF.out (by omega) (by (try simp); omega) (by (try simp); omega))
end
end
section
open Go.RowKit
attribute [local go_sem ↓] Go.wp_at_zero Go.wp_at_succ
set_option maxRecDepth 100000 in
set_option maxHeartbeats 1000000 in
theorem scale_any {w : World} {n1 n2 : Bool} {A B A' B' : Option Addr} {k c m e c' e' : Nat} {d1 d2 : Int} {a b : DV} {n3 : Bool} {X X' : Option Addr} {p q q' : Nat} {d3 : Int} {x : DV} (ha : Iw w n1 A k c d1 n2 B m e d2 a b A' c' B' e') (hb : Dy w n3 X p q d3 x X' q') (hT : Tabs w) (hl : len x.m ≤ 1048576) :
  Calls Tryz.prog 167 #[iv n1 A k c d1 n2 B m e d2, dv n3 X p q d3] w (IvRes (lo2 (mulD a x) (mulD b x)) (hi2 (mulD a x) (mulD b x)) w) := by
 obtain ⟨u, hu⟩ : ∃ u, mulD a x = u := ⟨_, rfl⟩
 obtain ⟨v, hv⟩ : ∃ v, mulD b x = v := ⟨_, rfl⟩
 have Wu : Hid (u.ok ∧ len u.m ≤ 16777216) := ⟨hu ▸ mulD_ok _ _, by have := lim_mul a x; rw [hu] at this; have := ha.wa.2; omega⟩
 have Wv : Hid (v.ok ∧ len v.m ≤ 16777216) := ⟨hv ▸ mulD_ok _ _, by have := lim_mul b x; rw [hv] at this; have := ha.wb.2; omega⟩
 rw [hu, hv]
 have Eu := Lib.hid hu; have Ev := Lib.hid hv; clear hu hv hl
 have HA := Lib.hid ha; have HB := Lib.hid hb; have HT := Lib.hid hT; clear ha hb hT
 obtain ⟨X0, X1, XZ, XE⟩ := boxesNZ w n1 n2 A B k c m e d1 d2 n3 X p q d3
 have HX0 := Lib.hid X0; have HX1 := Lib.hid X1; have HXZ := Lib.hid XZ; have HXE := Lib.hid XE
 clear X0 X1 XE XZ
 go_enter Tryz.func167, Tryz.ntmps167
 go_upto_region 1 with fail
 go_cut [] (fun wx => NumZ w a b A' c' B' e' n3 X p q d3 wx)
 case first =>
  obtain ⟨⟨k0, k1, k2, k3, k4, k5⟩, kz⟩ := HX0.out
  go_wp2_with (go_at_call 87; (with_reducible refine (HA.out.itv _ HXE.out).mono ?_); rintro e1 w1 ⟨rfl, hx⟩; clear k0 k1 k2 k3 k4 k5 kz; obtain ⟨⟨k0, k1, k2, k3, k4, k5⟩, kz⟩ := HX0.out.ext hx; have HX := Lib.hid hx; clear hx)
  go_meet
  exact numZ_of HX0.out HX1.out HXZ.out HXE.out HX.out
 case rest =>
  clear HX0 HX1 HXE HXZ
  obtain ⟨hE, hX0, hX1, hXZ⟩ := hcut
  have HE := Lib.hid hE; have HX0 := Lib.hid hX0; have HX1 := Lib.hid hX1; have HXZ := Lib.hid hXZ
  clear hE hX0 hX1 hXZ
  have HS : Hid (∀ w', Ext wc w' → w'.cell? ⟨w.heap.size, 0, none⟩ = some (.bool a.neg) ∧ w'.cell? ⟨w.heap.size, 1, none⟩ = some (.slice A' (len a.m) c') ∧ w'.cell? ⟨w.heap.size, 2, none⟩ = some (I a.den) ∧ w'.cell? ⟨w.heap.size, 3, none⟩ = some (.bool b.neg) ∧ w'.cell? ⟨w.heap.size, 4, none⟩ = some (.slice B' (len b.m) e') ∧ w'.cell? ⟨w.heap.size, 5, none⟩ = some (I b.den) ∧ w'.cell? ⟨w.heap.size + 1, 0, none⟩ = some (.bool n3) ∧ w'.cell? ⟨w.heap.size + 1, 1, none⟩ = some (.slice X p q) ∧ w'.cell? ⟨w.heap.size + 1, 2, none⟩ = some (I d3)) := fun w' e => by
   obtain ⟨⟨i0, i1, i2, i3, i4, i5⟩, iz⟩ := HX0.out.ext e
   obtain ⟨⟨j0, j1, j2⟩, jz⟩ := HX1.out.ext e
   exact ⟨i0, i1, i2, i3, i4, i5, j0, j1, j2⟩
  have HS2 : Hid (∀ w1 u0 u1 u2 u3 u4 u5, Ext wc w1 → ((((((w1.setCell ⟨w.heap.size + 1 + 1, 0, none⟩ u0).setCell ⟨w.heap.size + 1 + 1, 1, none⟩ u1).setCell ⟨w.heap.size + 1 + 1, 2, none⟩ u2).setCell ⟨w.heap.size + 1 + 1, 3, none⟩ u3).setCell ⟨w.heap.size + 1 + 1, 4, none⟩ u4).setCell ⟨w.heap.size + 1 + 1, 5, none⟩ u5).cell? ⟨w.heap.size, 0, none⟩ = some (.bool a.neg) ∧ ((((((w1.setCell ⟨w.heap.size + 1 + 1, 0, none⟩ u0).setCell ⟨w.heap.size + 1 + 1, 1, none⟩ u1).setCell ⟨w.heap.size + 1 + 1, 2, none⟩ u2).setCell ⟨w.heap.size + 1 + 1, 3, none⟩ u3).setCell ⟨w.heap.size + 1 + 1, 4, none⟩ u4).setCell ⟨w.heap.size + 1 + 1, 5, none⟩ u5).cell? ⟨w.heap.size, 1, none⟩ = some (.slice A' (len a.m) c') ∧ ((((((w1.setCell ⟨w.heap.size + 1 + 1, 0, none⟩ u0).setCell ⟨w.heap.size + 1 + 1, 1, none⟩ u1).setCell ⟨w.heap.size + 1 + 1, 2, none⟩ u2).setCell ⟨w.heap.size + 1 + 1, 3, none⟩ u3).setCell ⟨w.heap.size + 1 + 1, 4, none⟩ u4).setCell ⟨w.heap.size + 1 + 1, 5, none⟩ u5).cell? ⟨w.heap.size, 2, none⟩ = some (I a.den) ∧ ((((((w1.setCell ⟨w.heap.size + 1 + 1, 0, none⟩ u0).setCell ⟨w.heap.size + 1 + 1, 1, none⟩ u1).setCell ⟨w.heap.size + 1 + 1, 2, none⟩ u2).setCell ⟨w.heap.size + 1 + 1, 3, none⟩ u3).setCell ⟨w.heap.size + 1 + 1, 4, none⟩ u4).setCell ⟨w.heap.size + 1 + 1, 5, none⟩ u5).cell? ⟨w.heap.size, 3, none⟩ = some (.bool b.neg) ∧ ((((((w1.setCell ⟨w.heap.size + 1 + 1, 0, none⟩ u0).setCell ⟨w.heap.size + 1 + 1, 1, none⟩ u1).setCell ⟨w.heap.size + 1 + 1, 2, none⟩ u2).setCell ⟨w.heap.size + 1 + 1, 3, none⟩ u3).setCell ⟨w.heap.size + 1 + 1, 4, none⟩ u4).setCell ⟨w.heap.size + 1 + 1, 5, none⟩ u5).cell? ⟨w.heap.size, 4, none⟩ = some (.slice B' (len b.m) e') ∧ ((((((w1.setCell ⟨w.heap.size + 1 + 1, 0, none⟩ u0).setCell ⟨w.heap.size + 1 + 1, 1, none⟩ u1).setCell ⟨w.heap.size + 1 + 1, 2, none⟩ u2).setCell ⟨w.heap.size + 1 + 1, 3, none⟩ u3).setCell ⟨w.heap.size + 1 + 1, 4, none⟩ u4).setCell ⟨w.heap.size + 1 + 1, 5, none⟩ u5).cell? ⟨w.heap.size, 5, none⟩ = some (I b.den) ∧ ((((((w1.setCell ⟨w.heap.size + 1 + 1, 0, none⟩ u0).setCell ⟨w.heap.size + 1 + 1, 1, none⟩ u1).setCell ⟨w.heap.size + 1 + 1, 2, none⟩ u2).setCell ⟨w.heap.size + 1 + 1, 3, none⟩ u3).setCell ⟨w.heap.size + 1 + 1, 4, none⟩ u4).setCell ⟨w.heap.size + 1 + 1, 5, none⟩ u5).cell? ⟨w.heap.size + 1, 0, none⟩ = some (.bool n3) ∧ ((((((w1.setCell ⟨w.heap.size + 1 + 1, 0, none⟩ u0).setCell ⟨w.heap.size + 1 + 1, 1, none⟩ u1).setCell ⟨w.heap.size + 1 + 1, 2, none⟩ u2).setCell ⟨w.heap.size + 1 + 1, 3, none⟩ u3).setCell ⟨w.heap.size + 1 + 1, 4, none⟩ u4).setCell ⟨w.heap.size + 1 + 1, 5, none⟩ u5).cell? ⟨w.heap.size + 1, 1, none⟩ = some (.slice X p q) ∧ ((((((w1.setCell ⟨w.heap.size + 1 + 1, 0, none⟩ u0).setCell ⟨w.heap.size + 1 + 1, 1, none⟩ u1).setCell ⟨w.heap.size + 1 + 1, 2, none⟩ u2).setCell ⟨w.heap.size + 1 + 1, 3, none⟩ u3).setCell ⟨w.heap.size + 1 + 1, 4, none⟩ u4).setCell ⟨w.heap.size + 1 + 1, 5, none⟩ u5).cell? ⟨w.heap.size + 1, 2, none⟩ = some (I d3)) := fun w1 u0 u1 u2 u3 u4 u5 e => by
   obtain ⟨⟨i0, i1, i2, i3, i4, i5⟩, iz⟩ := (HX0.out.ext e).far6 (g' := w.heap.size + 1 + 1) (by omega) u0 u1 u2 u3 u4 u5
   obtain ⟨⟨j0, j1, j2⟩, jz⟩ := (HX1.out.ext e).far6 (g' := w.heap.size + 1 + 1) (by omega) u0 u1 u2 u3 u4 u5
   exact ⟨i0, i1, i2, i3, i4, i5, j0, j1, j2⟩
  have hlx := HXZ.out.lt; have hnx := Nat.ne_of_lt hlx; have hq1 : ¬ w.heap.size + 1 + 1 = w.heap.size := (by omega); have hq2 : ¬ w.heap.size = w.heap.size + 1 + 1 := (by omega)
  go_wp2_with fail
  go_region_held3 (fun w' => w'.cell? ⟨w.heap.size, 0, none⟩ = some (.bool a.neg) ∧ w'.cell? ⟨w.heap.size, 1, none⟩ = some (.slice A' (len a.m) c') ∧ w'.cell? ⟨w.heap.size, 2, none⟩ = some (I a.den) ∧ w'.cell? ⟨w.heap.size, 3, none⟩ = some (.bool b.neg) ∧ w'.cell? ⟨w.heap.size, 4, none⟩ = some (.slice B' (len b.m) e') ∧ w'.cell? ⟨w.heap.size, 5, none⟩ = some (I b.den) ∧ w'.cell? ⟨w.heap.size + 1, 0, none⟩ = some (.bool n3) ∧ w'.cell? ⟨w.heap.size + 1, 1, none⟩ = some (.slice X p q) ∧ w'.cell? ⟨w.heap.size + 1, 2, none⟩ = some (I d3)) (first | with_reducible assumption | exact HS.out _ ex2 | exact HS2.out _ _ _ _ _ _ _ ex2)
   (first
    | (have hg := hx2; clear hg; go_at_call 182; (with_reducible refine (least1 (D1.out.ext ex2) (D2.out.ext ex2) (HT.out.ext (HE.out.trans ex2)) (St.new _ _ _ _ _)).mono ?_); rintro e1 w3 ⟨A3, c3, B3, k3, rfl, hfa, hfb, hx3⟩; have FA := Lib.hid hfa; have FB := Lib.hid hfb; clear hfa hfb; obtain ⟨⟨r0, r1, r2, r3, r4, r5⟩, rz⟩ := HXZ.out.ext (w' := w3) ex2)
    | (have hg := hx1; clear hg; go_at_call 199; (with_reducible refine (mul_any (HA.out.dyb.ext (HE.out.trans ex2)) (HB.out.ext (HE.out.trans ex2)) (HT.out.ext (HE.out.trans ex2))).mono ?_); rw [Ev.out]; rintro e1 w2 ⟨A2, c2, rfl, hon, hx2⟩; have O2 := Lib.hid hon; have D2 := Lib.hid (Dy.of_on hon Wv.out.1 Wv.out.2 (Ext.refl _)); clear hon)
    | (go_at_call 199; (with_reducible refine (mul_any (HA.out.dya.ext (HE.out.trans ex2)) (HB.out.ext (HE.out.trans ex2)) (HT.out.ext (HE.out.trans ex2))).mono ?_); rw [Eu.out]; rintro e1 w1 ⟨A1, c1, rfl, hon, hx1⟩; have O1 := Lib.hid hon; have D1 := Lib.hid (Dy.of_on hon Wu.out.1 Wu.out.2 (Ext.refl _)); clear hon))
  all_goals
   have HF := Lib.hid (HE.out.trans (show Ext wc w3 from ex2))
   have hz2 := Ext.size (show Ext wc w2 from ex2)
   go_wp2_with fail
   exact bodyPost_ret (v := ivd (lo2 u v) A3 c3 (hi2 u v) B3 k3) (by simp [results, Tryz.results167, go_sem, r0, r1, r2, r3, r4, r5]) rfl (IvRes.end6 rfl FA.out FB.out HF.out (by omega) (by (try simp); omega) (by (try simp); omega))
end
section
open Go.RowKit
attribute [local go_sem ↓] Go.wp_at_zero Go.wp_at_succ
set_option maxRecDepth 100000 in
set_option maxHeartbeats 1000000 in
theorem hull_any {w : World} {n1 n2 : Bool} {A B A' B' : Option Addr} {k c m e c' e' : Nat} {d1 d2 : Int} {a b : DV} {n3 n4 : Bool} {X Y X' Y' : Option Addr} {p q r s q' s' : Nat} {d3 d4 : Int} {x y : DV} (ha : Iw w n1 A k c d1 n2 B m e d2 a b A' c' B' e') (hb : Iw w n3 X p q d3 n4 Y r s d4 x y X' q' Y' s') (hT : Tabs w) :
  Calls Tryz.prog 140 #[iv n1 A k c d1 n2 B m e d2, iv n3 X p q d3 n4 Y r s d4] w (IvRes (lo4 a b x y) (hi4 a b x y) w) := by
 obtain ⟨L, hL⟩ : ∃ L, lo4 a b x y = L := ⟨_, rfl⟩
 obtain ⟨H, hH⟩ : ∃ H, hi4 a b x y = H := ⟨_, rfl⟩
 rw [hL, hH]
 have EL := Lib.hid hL; have EH := Lib.hid hH; clear hL hH
 have HA := Lib.hid ha; have HB := Lib.hid hb; have HT := Lib.hid hT; clear ha hb hT
 obtain ⟨X0, X1, XZ, XE⟩ := boxes3 w n1 n2 A B k c m e d1 d2 n3 n4 X Y p q r s d3 d4
 have HX0 := Lib.hid X0; have HX1 := Lib.hid X1; have HXZ := Lib.hid XZ; have HXE := Lib.hid XE
 clear X0 X1 XZ XE
 go_enter Tryz.func140, Tryz.ntmps140
 go_upto_region 1 with fail
 go_cut [] (fun wx => TwoI w a b A' c' B' e' x y X' q' Y' s' wx)
 case first =>
  go_region_with (first
   | (go_at_call 87; (with_reducible refine (HA.out.itv _ (HXE.out.trans ex2)).mono ?_); rintro e1 wa ⟨rfl, hxwa⟩; obtain ⟨⟨ak0, ak1, ak2, ak3, ak4, ak5⟩, akz⟩ := HX0.out.ext (w' := wa) ex2; obtain ⟨⟨al0, al1, al2, al3, al4, al5⟩, alz⟩ := HX1.out.ext (w' := wa) ex2)
   | (go_at_call 87; (with_reducible refine (HB.out.itv _ (HXE.out.trans ex2)).mono ?_); rintro e1 wb ⟨rfl, hxwb⟩; obtain ⟨⟨bk0, bk1, bk2, bk3, bk4, bk5⟩, bkz⟩ := HX0.out.ext (w' := wb) ex2; obtain ⟨⟨bl0, bl1, bl2, bl3, bl4, bl5⟩, blz⟩ := HX1.out.ext (w' := wb) ex2))
  all_goals
   go_wp2_with fail
   go_meet
   exact twoI_of HX0.out HX1.out HXZ.out HXE.out ex2
 case rest =>
  clear HX0 HX1 HXZ HXE
  obtain ⟨hE, hX0, hX1, hXZ⟩ := hcut
  have HE := Lib.hid hE; have HX0 := Lib.hid hX0; have HX1 := Lib.hid hX1; have HXZ := Lib.hid hXZ
  clear hE hX0 hX1 hXZ
  obtain ⟨⟨k0, k1, k2, k3, k4, k5⟩, kz⟩ := HX0.out
  obtain ⟨⟨l0, l1, l2, l3, l4, l5⟩, lz⟩ := HX1.out
  go_wp2_with fail
  have EA := fun (W : World) (o : Obj) => Ext.alloc W o
  with_reducible refine (least3 (HA.out.dya.ext (HE.out.trans (EA _ _))) (HA.out.dyb.ext (HE.out.trans (EA _ _))) (HB.out.dya.ext (HE.out.trans (EA _ _))) (HB.out.dyb.ext (HE.out.trans (EA _ _))) (HT.out.ext (HE.out.trans (EA _ _))) (St.mk' (World.cell?_alloc_new _ _ _ 0) (World.cell?_alloc_new _ _ _ 1) (World.cell?_alloc_new _ _ _ 2)) (World.cell?_alloc_new _ _ _ 3) (World.cell?_alloc_new _ _ _ 4) (World.cell?_alloc_new _ _ _ 5) (World.cell?_alloc_new _ _ _ 6) (World.cell?_alloc_new _ _ _ 7) (World.cell?_alloc_new _ _ _ 8)).mono ?_
  rw [EL.out, EH.out]
  rintro e1 w1 ⟨A1, c1, B1, e1', rfl, hfa, hfb, hx⟩
  have FA := Lib.hid hfa; have FB := Lib.hid hfb; clear hfa hfb k0 k1 k2 k3 k4 k5 kz l0 l1 l2 l3 l4 l5 lz
  obtain ⟨⟨r0, r1, r2, r3, r4, r5⟩, rz⟩ := HXZ.out.ext ((EA _ _).trans hx)
  have HF := Lib.hid (HE.out.trans ((EA _ _).trans hx))
  have hz := HXZ.out.lt
  clear hx EA
  go_wp2_with fail
  exact bodyPost_ret (v := ivd L A1 c1 H B1 e1') (by simp [results, Tryz.results140, go_sem, r0, r1, r2, r3, r4, r5]) rfl (IvRes.end6 rfl FA.out FB.out HF.out (by omega) (by simp; omega) (by simp; omega))
end
end Go.Proofs.YtgnngldlgcdnfaaGreatDoor

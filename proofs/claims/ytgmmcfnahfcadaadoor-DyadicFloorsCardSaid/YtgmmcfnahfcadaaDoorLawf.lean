/- The law DyadicFloors. -/
import Derived.Test.YtgmmcfnahfcadaaDoorFlm
import Derived.Deep.RegionHeld3
import Derived.Deep.DeepCutAuto
namespace Go.Proofs.YtgmmcfnahfcadaaDoor
open Go.RowKit

set_option maxRecDepth 100000 in
set_option maxHeartbeats 8000000 in
theorem floors_true {w : World} {na : Bool} {A A' : Option Addr} {a0 a1 a2 : Nat} {da : Int} {a : DV} (hha : Dy w na A a0 a1 da a A' a2) (hT : Tabs w) (k : Nat) (hk : k ≤ 400) (fa : fewOk a0 da) (sa : Sm a) :
    Calls Tryd.prog 7 #[dv na A a0 a1 da, I k] w fun e w' => e = .returned (.bool true) ∧ Ext w w' := by
  have HA0 := Lib.hid hha; have HT0 := Lib.hid hT; clear hha hT
  obtain ⟨oa, la, ta⟩ := sa
  have HFW := Lib.hid (few1 fa)
  clear fa
  obtain ⟨k1, k2⟩ := floor_cmp oa k (by omega)
  obtain ⟨k3, k4⟩ := ceil_cmp oa k (by omega)
  have k5 := back_floor oa k
  have k6 := floor_den (a := a) k (by omega)
  have k7 := ceil_den (a := a) k (by omega)
  obtain ⟨f, hf⟩ : ∃ x, floorD a k = x := ⟨_, rfl⟩
  obtain ⟨c, hc⟩ : ∃ x, ceilD a k = x := ⟨_, rfl⟩
  obtain ⟨g, hg⟩ : ∃ x, ofI 1 k = x := ⟨_, rfl⟩
  obtain ⟨m, hm⟩ : ∃ x, negD a = x := ⟨_, rfl⟩
  obtain ⟨b, hb⟩ : ∃ x, ceilD m k = x := ⟨_, rfl⟩
  obtain ⟨s, hs⟩ : ∃ x, addD f g = x := ⟨_, rfl⟩
  obtain ⟨t, ht⟩ : ∃ x, subD c g = x := ⟨_, rfl⟩
  have lf := lim_floor a k
  have lc := lim_ceil a k
  have lm := lim_neg a
  have lg : len (ofI 1 k).m ≤ 2 := Nat.le_trans (len_mono (mkD_m_le _ _ _)) (len_abs (n := 1) (by omega) (by omega))
  have lb := lim_ceil (negD a) k
  rw [hf] at k1 k2 k5 k6 lf
  rw [hc] at k3 k4 k7 lc
  rw [hg] at k2 k4 lg
  rw [hm] at k5 lm lb
  rw [hb] at k5 lb
  rw [hs] at k2
  rw [ht] at k4
  have Ef : Hid (floorD a k = f) := hf
  have Ec : Hid (ceilD a k = c) := hc
  have Eg : Hid (ofI 1 k = g) := hg
  have Em : Hid (negD a = m) := hm
  have Eb : Hid (ceilD m k = b) := hb
  have Es : Hid (addD f g = s) := hs
  have Et : Hid (subD c g = t) := ht
  have En : Hid (negD b = f) := k5
  have Wf : Hid (f.ok ∧ len f.m ≤ 16777216) := ⟨hf ▸ floorD_ok oa _, by omega⟩
  have Wc : Hid (c.ok ∧ len c.m ≤ 16777216) := ⟨hc ▸ negD_ok _, by omega⟩
  have Wg : Hid (g.ok ∧ len g.m ≤ 16777216) := ⟨hg ▸ ofI_ok _ _, by omega⟩
  have Wm : Hid (m.ok ∧ len m.m ≤ 16777216) := ⟨hm ▸ negD_ok _, by omega⟩
  have Wb : Hid (b.ok ∧ len b.m ≤ 16777216) := ⟨hb ▸ negD_ok _, by omega⟩
  have Ws : Hid (s.ok ∧ len s.m ≤ 16777216) := ⟨hs ▸ addD_ok _ _, by have := lim_add (a := f) (b := g) Wf.out.1.2.1 Wg.out.1.2.1; rw [hs] at this; omega⟩
  have Wt : Hid (t.ok ∧ len t.m ≤ 16777216) := ⟨ht ▸ subD_ok _ _, by have := lim_sub (a := c) (b := g) Wc.out.1.2.1 Wg.out.1.2.1; rw [ht] at this; omega⟩
  have lm2 : len m.m ≤ 1048576 := by omega
  have la2 : len a.m ≤ 1048576 := by omega
  have Lf : Hid (len f.m ≤ 1073741824) := by show _ ≤ _; omega
  have hk2 : k ≤ 65536 := by omega
  obtain ⟨v1, hv1⟩ : ∃ x, cmpD f a = x := ⟨_, rfl⟩
  obtain ⟨v2, hv2⟩ : ∃ x, cmpD a s = x := ⟨_, rfl⟩
  obtain ⟨v3, hv3⟩ : ∃ x, cmpD c a = x := ⟨_, rfl⟩
  obtain ⟨v4, hv4⟩ : ∃ x, cmpD t a = x := ⟨_, rfl⟩
  rw [hv1] at k1; rw [hv2] at k2; rw [hv3] at k3; rw [hv4] at k4
  have V1 : Hid (cmpD f a = v1) := hv1
  have V2 : Hid (cmpD a s = v2) := hv2
  have V3 : Hid (cmpD c a = v3) := hv3
  have V4 : Hid (cmpD t a = v4) := hv4
  have k6i : (f.den : Int) ≤ (k : Int) := by omega
  have k7i : (c.den : Int) ≤ (k : Int) := by omega
  have Sa := Lib.hid (Bx.new w (.bool na) (.slice A a0 a1) (I da) 24).1
  clear hf hc hg hm hb hs ht hv1 hv2 hv3 hv4 k5 k6 k7 lf lc lm lg lb oa la ta
  go_enter Tryd.func7, Tryd.ntmps7
  go_wp2_with fail
  have HN := Lib.hid (nums1 (w.alloc (.cells #[.bool na, .slice A a0 a1, I da] 24)) (w.heap.size + 1) (by simp) na A a0 a1 da 24)
  with_reducible refine (few_true HN.out (by simp) (by omega) HFW.out).mono ?_
  rintro e wf ⟨rfl, hx⟩
  have HEF : Hid (Ext w wf) := ((Ext.alloc _ _).trans (Ext.alloc _ _)).trans hx
  have Sb := Lib.hid ((Sa.out.ext (Ext.alloc _ _)).ext hx)
  clear hx HN HFW Sa
  go_wp2_with fail
  refine (awake_any _ (HT0.out.ext HEF.out)).mono ?_
  rintro e w0 ⟨rfl, hx⟩
  have X0 := Lib.hid (HEF.out.trans hx)
  have HT := Lib.hid (HT0.out.ext X0.out)
  have Sa := Lib.hid (Sb.out.ext hx)
  have HA := Lib.hid (HA0.out.ext X0.out)
  clear hx Sb HEF HT0 HA0
  obtain ⟨z0, z1, z2⟩ := Sa.out
  go_wp2_with (first
    | (have hg := HE5; clear hg; go_at_call 46; (with_reducible refine (ceil_any k (HI5.out _ (Ext.refl _)) (HT.out.ext ((((HE1.out.trans HE2.out).trans HE3.out).trans HE4.out).trans HE5.out)) hk2 lm2).mono ?_); rw [Eb.out]; rintro e w6 ⟨A6, c6, rfl, hon, hx⟩; have HE6 := Lib.hid (hx); have HI6 := Lib.hid (Dy.at_ hon Wb.out.1 Wb.out.2); clear hon hx; obtain ⟨z0, z1, z2⟩ := Sa.out.ext ((((((HE1.out.trans HE2.out).trans HE3.out).trans HE4.out).trans HE5.out).trans HE6.out).trans (Ext.alloc _ (.cells #[.bool b.neg, .slice A6 (len b.m) c6, I b.den] 24))))
    | (have hg := HE4; clear hg; go_at_call 22; (with_reducible refine (neg_any (HA.out.ext ((((HE1.out.trans HE2.out).trans HE3.out).trans HE4.out).trans (Ext.alloc _ _))) (HT.out.ext ((((HE1.out.trans HE2.out).trans HE3.out).trans HE4.out).trans (Ext.alloc _ _)))).mono ?_); rw [Em.out]; rintro e w5 ⟨A5, c5, rfl, hon, hx⟩; have HE5 := Lib.hid ((Ext.alloc _ _).trans hx); have HI5 := Lib.hid (Dy.at_ hon Wm.out.1 Wm.out.2); have HB4 : Hid (∀ w', Ext w5 w' → St w' w4.heap.size (.bool g.neg) (.slice A4 (len g.m) c4) (I g.den)) := fun _ e => ((St.new w4 _ _ _ _).ext hx).ext e; clear hon hx; obtain ⟨z0, z1, z2⟩ := Sa.out.ext ((((HE1.out.trans HE2.out).trans HE3.out).trans HE4.out).trans HE5.out))
    | (have hg := HE3; clear hg; go_at_call 49; (with_reducible refine (make_any 1 k _ (HT.out.ext (((HE1.out.trans HE2.out).trans HE3.out).trans (Ext.alloc _ _))) (by omega) (by omega) hk2).mono ?_); rw [Eg.out]; rintro e w4 ⟨A4, c4, rfl, hon, hx⟩; have HE4 := Lib.hid ((Ext.alloc _ _).trans hx); have HI4 := Lib.hid (Dy.at_ hon Wg.out.1 Wg.out.2); have HB3 : Hid (∀ w', Ext w4 w' → St w' w3.heap.size (.bool f.neg) (.slice A3 (len f.m) c3) (I f.den)) := fun _ e => ((St.new w3 _ _ _ _).ext hx).ext e; clear hon hx; obtain ⟨z0, z1, z2⟩ := Sa.out.ext ((((HE1.out.trans HE2.out).trans HE3.out).trans HE4.out).trans (Ext.alloc _ (.cells #[.bool g.neg, .slice A4 (len g.m) c4, I g.den] 24))))
    | (have hg := HE2; clear hg; go_at_call 48; (with_reducible refine (rfloor_any k (HA.out.ext ((HE1.out.trans HE2.out).trans (Ext.alloc _ _))) hk2).mono ?_); rw [Ef.out]; rintro e w3 ⟨A3, c3, rfl, hon, hx⟩; have HE3 := Lib.hid ((Ext.alloc _ _).trans hx); have HI3 := Lib.hid (Dy.at_ hon Wf.out.1 Wf.out.2); have HB2 : Hid (∀ w', Ext w3 w' → St w' w2.heap.size (.bool c.neg) (.slice A2 (len c.m) c2) (I c.den)) := fun _ e => ((St.new w2 _ _ _ _).ext hx).ext e; clear hon hx; obtain ⟨z0, z1, z2⟩ := Sa.out.ext (((HE1.out.trans HE2.out).trans HE3.out).trans (Ext.alloc _ (.cells #[.bool f.neg, .slice A3 (len f.m) c3, I f.den] 24))))
    | (have hg := HE1; clear hg; go_at_call 46; (with_reducible refine (ceil_any k (HA.out.ext (HE1.out.trans (Ext.alloc _ _))) (HT.out.ext (HE1.out.trans (Ext.alloc _ _))) hk2 la2).mono ?_); rw [Ec.out]; rintro e w2 ⟨A2, c2, rfl, hon, hx⟩; have HE2 := Lib.hid ((Ext.alloc _ _).trans hx); have HI2 := Lib.hid (Dy.at_ hon Wc.out.1 Wc.out.2); have HB1 : Hid (∀ w', Ext w2 w' → St w' w1.heap.size (.bool f.neg) (.slice A1 (len f.m) c1) (I f.den)) := fun _ e => ((St.new w1 _ _ _ _).ext hx).ext e; clear hon hx; obtain ⟨z0, z1, z2⟩ := Sa.out.ext ((HE1.out.trans HE2.out).trans (Ext.alloc _ (.cells #[.bool c.neg, .slice A2 (len c.m) c2, I c.den] 24))))
    | (go_at_call 16; (with_reducible refine (floor_any k (HA.out.ext (Ext.refl _)) (HT.out.ext (Ext.refl _)) hk2).mono ?_); rw [Ef.out]; rintro e w1 ⟨A1, c1, rfl, hon, hx⟩; have HE1 := Lib.hid (hx); have HI1 := Lib.hid (Dy.at_ hon Wf.out.1 Wf.out.2); clear hon hx; obtain ⟨z0, z1, z2⟩ := Sa.out.ext (HE1.out.trans (Ext.alloc _ (.cells #[.bool f.neg, .slice A1 (len f.m) c1, I f.den] 24)))))
  have B6 := Lib.hid (St.new w6 (.bool b.neg) (.slice A6 (len b.m) c6) (I b.den) 24)
  have XW := Lib.hid ((((((HE1.out.trans HE2.out).trans HE3.out).trans HE4.out).trans HE5.out).trans HE6.out).trans (Ext.alloc w6 (.cells #[.bool b.neg, .slice A6 (len b.m) c6, I b.den] 24)))
  have B1 : Hid (St (w6.alloc (.cells #[.bool b.neg, .slice A6 (len b.m) c6, I b.den] 24)) w1.heap.size (.bool f.neg) (.slice A1 (len f.m) c1) (I f.den)) := HB1.out _ ((((HE3.out.trans HE4.out).trans HE5.out).trans HE6.out).trans (Ext.alloc _ _))
  have B2 : Hid (St (w6.alloc (.cells #[.bool b.neg, .slice A6 (len b.m) c6, I b.den] 24)) w2.heap.size (.bool c.neg) (.slice A2 (len c.m) c2) (I c.den)) := HB2.out _ (((HE4.out.trans HE5.out).trans HE6.out).trans (Ext.alloc _ _))
  have B3 : Hid (St (w6.alloc (.cells #[.bool b.neg, .slice A6 (len b.m) c6, I b.den] 24)) w3.heap.size (.bool f.neg) (.slice A3 (len f.m) c3) (I f.den)) := HB3.out _ ((HE5.out.trans HE6.out).trans (Ext.alloc _ _))
  have B4 : Hid (St (w6.alloc (.cells #[.bool b.neg, .slice A6 (len b.m) c6, I b.den] 24)) w4.heap.size (.bool g.neg) (.slice A4 (len g.m) c4) (I g.den)) := HB4.out _ (HE6.out.trans (Ext.alloc _ _))
  have J1 : Hid (∀ w', Ext (w6.alloc (.cells #[.bool b.neg, .slice A6 (len b.m) c6, I b.den] 24)) w' → Dy w' f.neg A1 (len f.m) c1 f.den f A1 c1) := fun _ e => HI1.out _ ((((((HE2.out.trans HE3.out).trans HE4.out).trans HE5.out).trans HE6.out).trans (Ext.alloc _ _)).trans e)
  have J2 : Hid (∀ w', Ext (w6.alloc (.cells #[.bool b.neg, .slice A6 (len b.m) c6, I b.den] 24)) w' → Dy w' c.neg A2 (len c.m) c2 c.den c A2 c2) := fun _ e => HI2.out _ (((((HE3.out.trans HE4.out).trans HE5.out).trans HE6.out).trans (Ext.alloc _ _)).trans e)
  have J3 : Hid (∀ w', Ext (w6.alloc (.cells #[.bool b.neg, .slice A6 (len b.m) c6, I b.den] 24)) w' → Dy w' f.neg A3 (len f.m) c3 f.den f A3 c3) := fun _ e => HI3.out _ ((((HE4.out.trans HE5.out).trans HE6.out).trans (Ext.alloc _ _)).trans e)
  have J4 : Hid (∀ w', Ext (w6.alloc (.cells #[.bool b.neg, .slice A6 (len b.m) c6, I b.den] 24)) w' → Dy w' g.neg A4 (len g.m) c4 g.den g A4 c4) := fun _ e => HI4.out _ (((HE5.out.trans HE6.out).trans (Ext.alloc _ _)).trans e)
  have J6 : Hid (∀ w', Ext (w6.alloc (.cells #[.bool b.neg, .slice A6 (len b.m) c6, I b.den] 24)) w' → Dy w' b.neg A6 (len b.m) c6 b.den b A6 c6) := fun _ e => HI6.out _ (((Ext.refl _).trans (Ext.alloc _ _)).trans e)
  clear HB1 HB2 HB3 HB4 HI1 HI2 HI3 HI4 HI5 HI6 z0 z1 z2
  have Z := Lib.hid (Sa.out.ext XW.out)
  generalize (w6.alloc (.cells #[.bool b.neg, .slice A6 (len b.m) c6, I b.den] 24)) = W at *
  generalize w1.heap.size = g1 at *
  generalize w2.heap.size = g2 at *
  generalize w3.heap.size = g3 at *
  generalize w4.heap.size = g4 at *
  generalize w6.heap.size = g6 at *
  have HEW := Lib.hid (XW.out.trans (Ext.drew _))
  clear HE1 HE2 HE3 HE4 HE5 HE6
  have HIF_ := Lib.hid (fun w' (e : Ext W.drew w') => J1.out w' ((Ext.drew _).trans e))
  have HIC_ := Lib.hid (fun w' (e : Ext W.drew w') => J2.out w' ((Ext.drew _).trans e))
  have HIW_ := Lib.hid (fun w' (e : Ext W.drew w') => J3.out w' ((Ext.drew _).trans e))
  have HIG_ := Lib.hid (fun w' (e : Ext W.drew w') => J4.out w' ((Ext.drew _).trans e))
  have HIB_ := Lib.hid (fun w' (e : Ext W.drew w') => J6.out w' ((Ext.drew _).trans e))
  clear J1 J2 J3 J4 J6
  have HS : Hid (∀ w', Ext W.drew w' → w'.cell? ⟨w.heap.size, 0, none⟩ = some (.bool na) ∧ w'.cell? ⟨w.heap.size, 1, none⟩ = some (.slice A a0 a1) ∧ w'.cell? ⟨w.heap.size, 2, none⟩ = some (I da) ∧ w'.cell? ⟨g1, 0, none⟩ = some (.bool f.neg) ∧ w'.cell? ⟨g1, 1, none⟩ = some (.slice A1 (len f.m) c1) ∧ w'.cell? ⟨g1, 2, none⟩ = some (I f.den) ∧ w'.cell? ⟨g2, 0, none⟩ = some (.bool c.neg) ∧ w'.cell? ⟨g2, 1, none⟩ = some (.slice A2 (len c.m) c2) ∧ w'.cell? ⟨g2, 2, none⟩ = some (I c.den) ∧ w'.cell? ⟨g3, 0, none⟩ = some (.bool f.neg) ∧ w'.cell? ⟨g3, 1, none⟩ = some (.slice A3 (len f.m) c3) ∧ w'.cell? ⟨g3, 2, none⟩ = some (I f.den) ∧ w'.cell? ⟨g4, 0, none⟩ = some (.bool g.neg) ∧ w'.cell? ⟨g4, 1, none⟩ = some (.slice A4 (len g.m) c4) ∧ w'.cell? ⟨g4, 2, none⟩ = some (I g.den) ∧ w'.cell? ⟨g6, 0, none⟩ = some (.bool b.neg) ∧ w'.cell? ⟨g6, 1, none⟩ = some (.slice A6 (len b.m) c6) ∧ w'.cell? ⟨g6, 2, none⟩ = some (I b.den)) := fun w' e => by
    obtain ⟨x0, x1, x2⟩ := Z.out.ext ((Ext.drew _).trans e)
    obtain ⟨x10, x11, x12⟩ := B1.out.ext ((Ext.drew _).trans e)
    obtain ⟨x20, x21, x22⟩ := B2.out.ext ((Ext.drew _).trans e)
    obtain ⟨x30, x31, x32⟩ := B3.out.ext ((Ext.drew _).trans e)
    obtain ⟨x40, x41, x42⟩ := B4.out.ext ((Ext.drew _).trans e)
    obtain ⟨x60, x61, x62⟩ := B6.out.ext ((Ext.drew _).trans e)
    exact ⟨x0, x1, x2, x10, x11, x12, x20, x21, x22, x30, x31, x32, x40, x41, x42, x60, x61, x62⟩
  clear Z Sa B1 B2 B3 B4 B6
  have hk := HS.out _ (Ext.refl _)
  dsimp only [List.append]
  go_region_held3 (fun w' => w'.cell? ⟨w.heap.size, 0, none⟩ = some (.bool na) ∧ w'.cell? ⟨w.heap.size, 1, none⟩ = some (.slice A a0 a1) ∧ w'.cell? ⟨w.heap.size, 2, none⟩ = some (I da) ∧ w'.cell? ⟨g1, 0, none⟩ = some (.bool f.neg) ∧ w'.cell? ⟨g1, 1, none⟩ = some (.slice A1 (len f.m) c1) ∧ w'.cell? ⟨g1, 2, none⟩ = some (I f.den) ∧ w'.cell? ⟨g2, 0, none⟩ = some (.bool c.neg) ∧ w'.cell? ⟨g2, 1, none⟩ = some (.slice A2 (len c.m) c2) ∧ w'.cell? ⟨g2, 2, none⟩ = some (I c.den) ∧ w'.cell? ⟨g3, 0, none⟩ = some (.bool f.neg) ∧ w'.cell? ⟨g3, 1, none⟩ = some (.slice A3 (len f.m) c3) ∧ w'.cell? ⟨g3, 2, none⟩ = some (I f.den) ∧ w'.cell? ⟨g4, 0, none⟩ = some (.bool g.neg) ∧ w'.cell? ⟨g4, 1, none⟩ = some (.slice A4 (len g.m) c4) ∧ w'.cell? ⟨g4, 2, none⟩ = some (I g.den) ∧ w'.cell? ⟨g6, 0, none⟩ = some (.bool b.neg) ∧ w'.cell? ⟨g6, 1, none⟩ = some (.slice A6 (len b.m) c6) ∧ w'.cell? ⟨g6, 2, none⟩ = some (I b.den)) (first | assumption | exact hk)
    (first
      | (have hg := HE8; clear hg; go_at_call 21; (with_reducible refine (same_true (d := f) (HIN.out _ (Ext.refl _)).rd (HIF_.out _ (((((((HE1.out.trans HE2.out).trans HE3.out).trans HE4.out).trans HE5.out).trans HE6.out).trans HE7.out).trans HE8.out)).rd Lf.out).mono ?_); rintro e w9 ⟨rfl, hx⟩; have HE9 := Lib.hid hx; clear hx hk; have hk := HS.out _ ((((((((HE1.out.trans HE2.out).trans HE3.out).trans HE4.out).trans HE5.out).trans HE6.out).trans HE7.out).trans HE8.out).trans HE9.out))
      | (have hg := HE7; clear hg; go_at_call 22; (with_reducible refine (neg_any (HIB_.out _ ((((((HE1.out.trans HE2.out).trans HE3.out).trans HE4.out).trans HE5.out).trans HE6.out).trans HE7.out)) (HT.out.ext (HEW.out.trans ((((((HE1.out.trans HE2.out).trans HE3.out).trans HE4.out).trans HE5.out).trans HE6.out).trans HE7.out)))).mono ?_); rw [En.out]; rintro e w8 ⟨AN, cN, rfl, hon, hx⟩; have HE8 := Lib.hid hx; have HIN := Lib.hid (Dy.at_ hon Wf.out.1 Wf.out.2); clear hon; clear hx hk; have hk := HS.out _ (((((((HE1.out.trans HE2.out).trans HE3.out).trans HE4.out).trans HE5.out).trans HE6.out).trans HE7.out).trans HE8.out))
      | (have hg := HE6; clear hg; go_at_call 25; (with_reducible refine (cmp_any (HIT.out _ (Ext.refl _)) (HA.out.ext (HEW.out.trans (((((HE1.out.trans HE2.out).trans HE3.out).trans HE4.out).trans HE5.out).trans HE6.out)))).mono ?_); rw [V4.out]; rintro e w7 ⟨rfl, hx⟩; have HE7 := Lib.hid hx; clear hx hk; have hk := HS.out _ ((((((HE1.out.trans HE2.out).trans HE3.out).trans HE4.out).trans HE5.out).trans HE6.out).trans HE7.out))
      | (have hg := HE5; clear hg; go_at_call 29; (with_reducible refine (sub_any (HIC_.out _ ((((HE1.out.trans HE2.out).trans HE3.out).trans HE4.out).trans HE5.out)) (HIG_.out _ ((((HE1.out.trans HE2.out).trans HE3.out).trans HE4.out).trans HE5.out)) (HT.out.ext (HEW.out.trans ((((HE1.out.trans HE2.out).trans HE3.out).trans HE4.out).trans HE5.out)))).mono ?_); rw [Et.out]; rintro e w6 ⟨AT, cT, rfl, hon, hx⟩; have HE6 := Lib.hid hx; have HIT := Lib.hid (Dy.at_ hon Wt.out.1 Wt.out.2); clear hon; clear hx hk; have hk := HS.out _ (((((HE1.out.trans HE2.out).trans HE3.out).trans HE4.out).trans HE5.out).trans HE6.out))
      | (have hg := HE4; clear hg; go_at_call 25; (with_reducible refine (cmp_any (HIC_.out _ (((HE1.out.trans HE2.out).trans HE3.out).trans HE4.out)) (HA.out.ext (HEW.out.trans (((HE1.out.trans HE2.out).trans HE3.out).trans HE4.out)))).mono ?_); rw [V3.out]; rintro e w5 ⟨rfl, hx⟩; have HE5 := Lib.hid hx; clear hx hk; have hk := HS.out _ ((((HE1.out.trans HE2.out).trans HE3.out).trans HE4.out).trans HE5.out))
      | (have hg := HE3; clear hg; go_at_call 25; (with_reducible refine (cmp_any (HA.out.ext (HEW.out.trans ((HE1.out.trans HE2.out).trans HE3.out))) (HIS.out _ (Ext.refl _))).mono ?_); rw [V2.out]; rintro e w4 ⟨rfl, hx⟩; have HE4 := Lib.hid hx; clear hx hk; have hk := HS.out _ (((HE1.out.trans HE2.out).trans HE3.out).trans HE4.out))
      | (have hg := HE2; clear hg; go_at_call 28; (with_reducible refine (add_any (HIF_.out _ (HE1.out.trans HE2.out)) (HIG_.out _ (HE1.out.trans HE2.out)) (HT.out.ext (HEW.out.trans (HE1.out.trans HE2.out)))).mono ?_); rw [Es.out]; rintro e w3 ⟨AS, cS, rfl, hon, hx⟩; have HE3 := Lib.hid hx; have HIS := Lib.hid (Dy.at_ hon Ws.out.1 Ws.out.2); clear hon; clear hx hk; have hk := HS.out _ ((HE1.out.trans HE2.out).trans HE3.out))
      | (have hg := HE1; clear hg; go_at_call 25; (with_reducible refine (cmp_any (HIF_.out _ HE1.out) (HA.out.ext (HEW.out.trans HE1.out))).mono ?_); rw [V1.out]; rintro e w2 ⟨rfl, hx⟩; have HE2 := Lib.hid hx; clear hx hk; have hk := HS.out _ (HE1.out.trans HE2.out))
      | (go_at_call 21; (with_reducible refine (same_true (d := f) (HIF_.out _ (Ext.refl _)).rd (HIW_.out _ (Ext.refl _)).rd Lf.out).mono ?_); rintro e w1 ⟨rfl, hx⟩; have HE1 := Lib.hid hx; clear hx hk; have hk := HS.out _ HE1.out))
  all_goals
    go_wp2_with fail
    go_ret
    exact ⟨rfl, X0.out.trans (HEW.out.trans ((((((((HE1.out.trans HE2.out).trans HE3.out).trans HE4.out).trans HE5.out).trans HE6.out).trans HE7.out).trans HE8.out).trans HE9.out))⟩

end Go.Proofs.YtgmmcfnahfcadaaDoor

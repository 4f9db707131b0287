/- The document's examples of layer 3. -/
import Derived.Test.YtcdkkohklhmpgaaGreatDoorIvmu
import Derived.Test.YtcdkkohklhmpgaaGreatDoorIvit
import Derived.Test.YtcdkkohklhmpgaaGreatDoorIvtx
import Derived.Test.YtcdkkohklhmpgaaGreatDoorIvab
import Derived.Deep.RegionHeld3
import Derived.Deep.DeepCutAuto
namespace Go.Proofs.YtcdkkohklhmpgaaGreatDoor
open Go.RowKit
attribute [local go_sem ↓] Go.wp_at_zero Go.wp_at_succ

theorem end_small {n : Bool} {m : Nat} (h : m < 100) (h2 : m = 0 → n = false) : End ⟨n, m, 0⟩ := by
  refine ⟨⟨fun h0 => ⟨h2 h0, rfl⟩, Nat.zero_le _, fun h0 => absurd h0 (Nat.lt_irrefl 0)⟩, ?_⟩
  have := len_le (m := m) (n := 1) (by show m < 4294967296 ^ 1; omega)
  show len m ≤ _
  omega
theorem len_sm {m : Nat} (h : m < 100) : len m ≤ 1 := len_le (m := m) (n := 1) (by show m < 4294967296 ^ 1; omega)

set_option maxRecDepth 100000 in
set_option maxHeartbeats 1000000 in
theorem iawake_any (w : World) (hT : Tabs w) (hP : TabP w) : Calls Tryz.prog 13 #[] w fun e w' => e = .returned (.bool true) ∧ Ext w w' := by
  have HT := Lib.hid hT; have HP := Lib.hid hP; clear hT hP
  obtain ⟨p1, hp1⟩ : ∃ d, lo2 (ofI (-2) 0) (ofI 3 0) = d := ⟨_, rfl⟩
  obtain ⟨p2, hp2⟩ : ∃ d, hi2 (ofI (-2) 0) (ofI 3 0) = d := ⟨_, rfl⟩
  obtain ⟨q1, hq1⟩ : ∃ d, lo2 (ofI 4 0) (ofI (-1) 0) = d := ⟨_, rfl⟩
  obtain ⟨q2, hq2⟩ : ∃ d, hi2 (ofI 4 0) (ofI (-1) 0) = d := ⟨_, rfl⟩
  obtain ⟨m1, hm1⟩ : ∃ d, lo4 (lo2 (mulD p1 q1) (mulD p2 q1)) (hi2 (mulD p1 q1) (mulD p2 q1)) (lo2 (mulD p1 q2) (mulD p2 q2)) (hi2 (mulD p1 q2) (mulD p2 q2)) = d := ⟨_, rfl⟩
  obtain ⟨m2, hm2⟩ : ∃ d, hi4 (lo2 (mulD p1 q1) (mulD p2 q1)) (hi2 (mulD p1 q1) (mulD p2 q1)) (lo2 (mulD p1 q2) (mulD p2 q2)) (hi2 (mulD p1 q2) (mulD p2 q2)) = d := ⟨_, rfl⟩
  obtain ⟨r1, hr1⟩ : ∃ d, lo2 (ofI (-5) 0) (ofI 2 0) = d := ⟨_, rfl⟩
  obtain ⟨r2, hr2⟩ : ∃ d, hi2 (ofI (-5) 0) (ofI 2 0) = d := ⟨_, rfl⟩
  obtain ⟨s1, hs1⟩ : ∃ d, absL r1 r2 = d := ⟨_, rfl⟩
  obtain ⟨s2, hs2⟩ : ∃ d, absH r1 r2 = d := ⟨_, rfl⟩
  obtain ⟨t1, ht1⟩ : ∃ d, ofI 12 0 = d := ⟨_, rfl⟩
  obtain ⟨t2, ht2⟩ : ∃ d, ofI 13 0 = d := ⟨_, rfl⟩
  have ep1 : p1 = ⟨true, 2, 0⟩ := by rw [← hp1]; rfl
  have ep2 : p2 = ⟨false, 3, 0⟩ := by rw [← hp2]; rfl
  have eq1 : q1 = ⟨true, 1, 0⟩ := by rw [← hq1]; rfl
  have eq2 : q2 = ⟨false, 4, 0⟩ := by rw [← hq2]; rfl
  have em1 : m1 = ⟨true, 8, 0⟩ := by rw [← hm1, ep1, ep2, eq1, eq2]; rfl
  have em2 : m2 = ⟨false, 12, 0⟩ := by rw [← hm2, ep1, ep2, eq1, eq2]; rfl
  have er1 : r1 = ⟨true, 5, 0⟩ := by rw [← hr1]; rfl
  have er2 : r2 = ⟨false, 2, 0⟩ := by rw [← hr2]; rfl
  have es1 : s1 = ⟨false, 0, 0⟩ := by rw [← hs1, er1, er2]; rfl
  have es2 : s2 = ⟨false, 5, 0⟩ := by rw [← hs2, er1, er2]; rfl
  have et1 : t1 = ⟨false, 12, 0⟩ := by rw [← ht1]; rfl
  have et2 : t2 = ⟨false, 13, 0⟩ := by rw [← ht2]; rfl
  have Wp1 : Hid (End p1) := by show End _; rw [ep1]; exact end_small (by decide) (by decide)
  have Sp1 : Hid (len p1.m ≤ 1) := by show len _ ≤ 1; rw [ep1]; exact len_sm (by decide)
  have Vp1 : Hid (p1.ok ∧ len p1.m ≤ 16777216) := ⟨Wp1.out.1, Nat.le_trans Wp1.out.2 (by decide)⟩
  have Wp2 : Hid (End p2) := by show End _; rw [ep2]; exact end_small (by decide) (by decide)
  have Sp2 : Hid (len p2.m ≤ 1) := by show len _ ≤ 1; rw [ep2]; exact len_sm (by decide)
  have Vp2 : Hid (p2.ok ∧ len p2.m ≤ 16777216) := ⟨Wp2.out.1, Nat.le_trans Wp2.out.2 (by decide)⟩
  have Wq1 : Hid (End q1) := by show End _; rw [eq1]; exact end_small (by decide) (by decide)
  have Sq1 : Hid (len q1.m ≤ 1) := by show len _ ≤ 1; rw [eq1]; exact len_sm (by decide)
  have Vq1 : Hid (q1.ok ∧ len q1.m ≤ 16777216) := ⟨Wq1.out.1, Nat.le_trans Wq1.out.2 (by decide)⟩
  have Wq2 : Hid (End q2) := by show End _; rw [eq2]; exact end_small (by decide) (by decide)
  have Sq2 : Hid (len q2.m ≤ 1) := by show len _ ≤ 1; rw [eq2]; exact len_sm (by decide)
  have Vq2 : Hid (q2.ok ∧ len q2.m ≤ 16777216) := ⟨Wq2.out.1, Nat.le_trans Wq2.out.2 (by decide)⟩
  have Wm1 : Hid (End m1) := by show End _; rw [em1]; exact end_small (by decide) (by decide)
  have Sm1 : Hid (len m1.m ≤ 1) := by show len _ ≤ 1; rw [em1]; exact len_sm (by decide)
  have Vm1 : Hid (m1.ok ∧ len m1.m ≤ 16777216) := ⟨Wm1.out.1, Nat.le_trans Wm1.out.2 (by decide)⟩
  have Wm2 : Hid (End m2) := by show End _; rw [em2]; exact end_small (by decide) (by decide)
  have Sm2 : Hid (len m2.m ≤ 1) := by show len _ ≤ 1; rw [em2]; exact len_sm (by decide)
  have Vm2 : Hid (m2.ok ∧ len m2.m ≤ 16777216) := ⟨Wm2.out.1, Nat.le_trans Wm2.out.2 (by decide)⟩
  have Wr1 : Hid (End r1) := by show End _; rw [er1]; exact end_small (by decide) (by decide)
  have Sr1 : Hid (len r1.m ≤ 1) := by show len _ ≤ 1; rw [er1]; exact len_sm (by decide)
  have Vr1 : Hid (r1.ok ∧ len r1.m ≤ 16777216) := ⟨Wr1.out.1, Nat.le_trans Wr1.out.2 (by decide)⟩
  have Wr2 : Hid (End r2) := by show End _; rw [er2]; exact end_small (by decide) (by decide)
  have Sr2 : Hid (len r2.m ≤ 1) := by show len _ ≤ 1; rw [er2]; exact len_sm (by decide)
  have Vr2 : Hid (r2.ok ∧ len r2.m ≤ 16777216) := ⟨Wr2.out.1, Nat.le_trans Wr2.out.2 (by decide)⟩
  have Ws1 : Hid (End s1) := by show End _; rw [es1]; exact end_small (by decide) (by decide)
  have Ss1 : Hid (len s1.m ≤ 1) := by show len _ ≤ 1; rw [es1]; exact len_sm (by decide)
  have Vs1 : Hid (s1.ok ∧ len s1.m ≤ 16777216) := ⟨Ws1.out.1, Nat.le_trans Ws1.out.2 (by decide)⟩
  have Ws2 : Hid (End s2) := by show End _; rw [es2]; exact end_small (by decide) (by decide)
  have Ss2 : Hid (len s2.m ≤ 1) := by show len _ ≤ 1; rw [es2]; exact len_sm (by decide)
  have Vs2 : Hid (s2.ok ∧ len s2.m ≤ 16777216) := ⟨Ws2.out.1, Nat.le_trans Ws2.out.2 (by decide)⟩
  have Wt1 : Hid (End t1) := by show End _; rw [et1]; exact end_small (by decide) (by decide)
  have St1 : Hid (len t1.m ≤ 1) := by show len _ ≤ 1; rw [et1]; exact len_sm (by decide)
  have Vt1 : Hid (t1.ok ∧ len t1.m ≤ 16777216) := ⟨Wt1.out.1, Nat.le_trans Wt1.out.2 (by decide)⟩
  have Wt2 : Hid (End t2) := by show End _; rw [et2]; exact end_small (by decide) (by decide)
  have St2 : Hid (len t2.m ≤ 1) := by show len _ ≤ 1; rw [et2]; exact len_sm (by decide)
  have Vt2 : Hid (t2.ok ∧ len t2.m ≤ 16777216) := ⟨Wt2.out.1, Nat.le_trans Wt2.out.2 (by decide)⟩
  have Qp : Hid (p1.q ≤ p2.q) := by show _ ≤ _; rw [← hp1, ← hp2]; exact lo2_le (ofI_ok _ _) (ofI_ok _ _)
  have Qq : Hid (q1.q ≤ q2.q) := by show _ ≤ _; rw [← hq1, ← hq2]; exact lo2_le (ofI_ok _ _) (ofI_ok _ _)
  have Qr : Hid (r1.q ≤ r2.q) := by show _ ≤ _; rw [← hr1, ← hr2]; exact lo2_le (ofI_ok _ _) (ofI_ok _ _)
  have Qm : Hid (m1.q ≤ m2.q) := (cmp_le Wm1.out.1 Wm2.out.1).1 (by rw [em1, em2]; decide)
  have Qs : Hid (s1.q ≤ s2.q) := (cmp_le Ws1.out.1 Ws2.out.1).1 (by rw [es1, es2]; decide)
  have X1 : Hid (ivS m1 m2 = ⟨#[91, 45, 56, 44, 32, 49, 50, 93]⟩) := by show _ = _; rw [em1, em2]; decide +kernel
  have X2 : Hid (ivS s1 s2 = ⟨#[91, 48, 44, 32, 53, 93]⟩) := by show _ = _; rw [es1, es2]; decide +kernel
  have X3 : Hid (conB m1 m2 t1 = true) := by show _ = _; rw [em1, em2, et1]; decide
  have X4 : Hid (conB m1 m2 t2 = false) := by show _ = _; rw [em1, em2, et2]; decide
  have Ep1 := Lib.hid hp1
  have Ep2 := Lib.hid hp2
  have Eq1 := Lib.hid hq1
  have Eq2 := Lib.hid hq2
  have Em1 := Lib.hid hm1
  have Em2 := Lib.hid hm2
  have Er1 := Lib.hid hr1
  have Er2 := Lib.hid hr2
  have Es1 := Lib.hid hs1
  have Es2 := Lib.hid hs2
  have Et1 := Lib.hid ht1
  have Et2 := Lib.hid ht2
  clear hp1 ep1 hp2 ep2 hq1 eq1 hq2 eq2 hm1 em1 hm2 em2 hr1 er1 hr2 er2 hs1 es1 hs2 es2 ht1 et1 ht2 et2
  have LM1 : Hid (len p1.m + len q1.m ≤ 1048576) := by have h1 := Sp1.out; have h2 := Sq1.out; show _ ≤ _; omega
  have LM2 : Hid (len p2.m + len q1.m ≤ 1048576) := by have h1 := Sp2.out; have h2 := Sq1.out; show _ ≤ _; omega
  have LM3 : Hid (len p1.m + len q2.m ≤ 1048576) := by have h1 := Sp1.out; have h2 := Sq2.out; show _ ≤ _; omega
  have LM4 : Hid (len p2.m + len q2.m ≤ 1048576) := by have h1 := Sp2.out; have h2 := Sq2.out; show _ ≤ _; omega
  go_enter Tryz.func13, Tryz.ntmps13
  go_wp2_with (first
    | (have hg := HC4; clear hg; go_at_call 63; (with_reducible refine (iabs_any (HD4.out _ (Ext.refl _)) (HT.out.ext HC4.out)).mono ?_); rw [Es1.out, Es2.out]; rintro e1 w5 ⟨A5, c5, B5, k5, rfl, hfa, hfb, hx⟩; have HC5 := Lib.hid (Ext.trans HC4.out hx); have HD5 := Lib.hid (fun (W : World) (x : Ext w5 W) => IvRes.at_ hfa hfb Ws1.out Ws2.out Qs.out x); have HX35 := Lib.hid (HX34.out.trans hx); have BB3 := Lib.hid (B3.out.ext hx); clear hfa hfb hx HD4 B3 HX34)
    | (have hg := HC3; clear hg; go_at_call 62; (with_reducible refine (iints_any (-5) 2 (by decide) (by decide) (by decide) (by decide) (HT.out.ext (HC3.out.trans (Ext.alloc _ _)))).mono ?_); rw [Er1.out, Er2.out]; rintro e1 w4 ⟨A4, c4, B4, k4, rfl, hfa, hfb, hx⟩; have HC4 := Lib.hid (Ext.trans (HC3.out.trans (Ext.alloc _ _)) hx); have HD4 := Lib.hid (fun (W : World) (x : Ext w4 W) => IvRes.at_ hfa hfb Wr1.out Wr2.out Qr.out x); have B3 := Lib.hid ((B6.new w3 _ _ _ _ _ _ _).ext hx); have HX34 := Lib.hid ((Ext.alloc _ _).trans hx); clear hfa hfb hx)
    | (have hg := HC2; clear hg; go_at_call 61; (with_reducible refine (imul_any (HD1.out _ HX12.out) (HD2.out _ (Ext.refl _)) (HT.out.ext HC2.out) LM1.out LM2.out LM3.out LM4.out).mono ?_); rw [Em1.out, Em2.out]; rintro e1 w3 ⟨A3, c3, B3, k3, rfl, hfa, hfb, hx⟩; have HC3 := Lib.hid (Ext.trans HC2.out hx); have HD3 := Lib.hid (fun (W : World) (x : Ext w3 W) => IvRes.at_ hfa hfb Wm1.out Wm2.out Qm.out x); clear hfa hfb hx HD1 HD2 HX12)
    | (have hg := HC1; clear hg; go_at_call 62; (with_reducible refine (iints_any 4 (-1) (by decide) (by decide) (by decide) (by decide) (HT.out.ext HC1.out)).mono ?_); rw [Eq1.out, Eq2.out]; rintro e1 w2 ⟨A2, c2, B2, k2, rfl, hfa, hfb, hx⟩; have HC2 := Lib.hid (Ext.trans HC1.out hx); have HD2 := Lib.hid (fun (W : World) (x : Ext w2 W) => IvRes.at_ hfa hfb Wq1.out Wq2.out Qq.out x); have HX12 := Lib.hid hx; clear hfa hfb hx)
    | (go_at_call 62; (with_reducible refine (iints_any (-2) 3 (by decide) (by decide) (by decide) (by decide) (HT.out.ext (Ext.refl _))).mono ?_); rw [Ep1.out, Ep2.out]; rintro e1 w1 ⟨A1, c1, B1, k1, rfl, hfa, hfb, hx⟩; have HC1 := Lib.hid (Ext.trans (Ext.refl _) hx); have HD1 := Lib.hid (fun (W : World) (x : Ext w1 W) => IvRes.at_ hfa hfb Wp1.out Wp2.out Qp.out x); clear hfa hfb hx))
  have HS : Hid (∀ w', Ext (w5.alloc (.cells #[.bool s1.neg, .slice A5 (len s1.m) c5, I s1.den, .bool s2.neg, .slice B5 (len s2.m) k5, I s2.den] 26)) w' → w'.cell? ⟨w3.heap.size, 0, none⟩ = some (.bool m1.neg) ∧ w'.cell? ⟨w3.heap.size, 1, none⟩ = some (.slice A3 (len m1.m) c3) ∧ w'.cell? ⟨w3.heap.size, 2, none⟩ = some (I m1.den) ∧ w'.cell? ⟨w3.heap.size, 3, none⟩ = some (.bool m2.neg) ∧ w'.cell? ⟨w3.heap.size, 4, none⟩ = some (.slice B3 (len m2.m) k3) ∧ w'.cell? ⟨w3.heap.size, 5, none⟩ = some (I m2.den) ∧ w'.cell? ⟨w5.heap.size, 0, none⟩ = some (.bool s1.neg) ∧ w'.cell? ⟨w5.heap.size, 1, none⟩ = some (.slice A5 (len s1.m) c5) ∧ w'.cell? ⟨w5.heap.size, 2, none⟩ = some (I s1.den) ∧ w'.cell? ⟨w5.heap.size, 3, none⟩ = some (.bool s2.neg) ∧ w'.cell? ⟨w5.heap.size, 4, none⟩ = some (.slice B5 (len s2.m) k5) ∧ w'.cell? ⟨w5.heap.size, 5, none⟩ = some (I s2.den)) := fun w' e => by
    obtain ⟨⟨i0, i1, i2, i3, i4, i5⟩, iz⟩ := BB3.out.ext ((Ext.alloc _ _).trans e)
    obtain ⟨⟨j0, j1, j2, j3, j4, j5⟩, jz⟩ := (B6.new w5 (.bool s1.neg) (.slice A5 (len s1.m) c5) (I s1.den) (.bool s2.neg) (.slice B5 (len s2.m) k5) (I s2.den) 26).ext e
    exact ⟨i0, i1, i2, i3, i4, i5, j0, j1, j2, j3, j4, j5⟩
  have x35 := HX35.out
  have HC6 := Lib.hid (HC5.out.trans (Ext.alloc _ (.cells #[.bool s1.neg, .slice A5 (len s1.m) c5, I s1.den, .bool s2.neg, .slice B5 (len s2.m) k5, I s2.den] 26)))
  have HD3' := Lib.hid (fun (W : World) (x : Ext (w5.alloc (.cells #[.bool s1.neg, .slice A5 (len s1.m) c5, I s1.den, .bool s2.neg, .slice B5 (len s2.m) k5, I s2.den] 26)) W) => HD3.out W ((x35.trans (Ext.alloc _ _)).trans x))
  have HD5' := Lib.hid (fun (W : World) (x : Ext (w5.alloc (.cells #[.bool s1.neg, .slice A5 (len s1.m) c5, I s1.den, .bool s2.neg, .slice B5 (len s2.m) k5, I s2.den] 26)) W) => HD5.out W ((Ext.alloc _ _).trans x))
  clear HD3 HD5 BB3 HX35 HC1 HC2 HC3 HC4 HC5 x35 LM1 LM2 LM3 LM4 Ep1 Ep2 Eq1 Eq2 Em1 Em2 Er1 Er2 Es1 Es2
  generalize w5.alloc (.cells #[.bool s1.neg, .slice A5 (len s1.m) c5, I s1.den, .bool s2.neg, .slice B5 (len s2.m) k5, I s2.den] 26) = W6 at *
  generalize w3.heap.size = g3 at *
  generalize w5.heap.size = g5 at *
  go_region_held3 (fun w' => w'.cell? ⟨g3, 0, none⟩ = some (.bool m1.neg) ∧ w'.cell? ⟨g3, 1, none⟩ = some (.slice A3 (len m1.m) c3) ∧ w'.cell? ⟨g3, 2, none⟩ = some (I m1.den) ∧ w'.cell? ⟨g3, 3, none⟩ = some (.bool m2.neg) ∧ w'.cell? ⟨g3, 4, none⟩ = some (.slice B3 (len m2.m) k3) ∧ w'.cell? ⟨g3, 5, none⟩ = some (I m2.den) ∧ w'.cell? ⟨g5, 0, none⟩ = some (.bool s1.neg) ∧ w'.cell? ⟨g5, 1, none⟩ = some (.slice A5 (len s1.m) c5) ∧ w'.cell? ⟨g5, 2, none⟩ = some (I s1.den) ∧ w'.cell? ⟨g5, 3, none⟩ = some (.bool s2.neg) ∧ w'.cell? ⟨g5, 4, none⟩ = some (.slice B5 (len s2.m) k5) ∧ w'.cell? ⟨g5, 5, none⟩ = some (I s2.den)) (first | with_reducible assumption | exact HS.out _ (by (with_reducible (repeat (first | exact Ext.refl _ | assumption | (refine Ext.toSet ?_ (by omega)) | refine Ext.toAlloc ?_ | refine Ext.toDrew ?_ | refine Ext.toDrewN ?_ | refine Ext.trans ?_ (by assumption)))); (first | done | fail "no")))
    (first
      | (have hg := hx5; clear hg; go_at_call 46; (with_reducible refine (contains_any (HD3'.out _ (by (with_reducible (repeat (first | exact Ext.refl _ | assumption | (refine Ext.toSet ?_ (by omega)) | refine Ext.toAlloc ?_ | refine Ext.toDrew ?_ | refine Ext.toDrewN ?_ | refine Ext.trans ?_ (by assumption)))); (first | done | fail "no"))) (T2.out.ext (Ext.refl _))).mono ?_); rw [X4.out]; rintro e1 v6 ⟨rfl, hx6⟩)
      | (have hg := hx4; clear hg; go_at_call 65; (with_reducible refine (of_any 13 _ (HT.out.ext (HC6.out.trans (by (with_reducible (repeat (first | exact Ext.refl _ | assumption | (refine Ext.toSet ?_ (by omega)) | refine Ext.toAlloc ?_ | refine Ext.toDrew ?_ | refine Ext.toDrewN ?_ | refine Ext.trans ?_ (by assumption)))); (first | done | fail "no")))) (by decide) (by decide)).mono ?_); rw [Et2.out]; rintro e1 v5 ⟨A9, c9, rfl, hon, hx5⟩; have T2 := Lib.hid (Dy.of_on hon Vt2.out.1 Vt2.out.2 (Ext.refl _)); clear hon)
      | (have hg := hx3; clear hg; go_at_call 46; (with_reducible refine (contains_any (HD3'.out _ (by (with_reducible (repeat (first | exact Ext.refl _ | assumption | (refine Ext.toSet ?_ (by omega)) | refine Ext.toAlloc ?_ | refine Ext.toDrew ?_ | refine Ext.toDrewN ?_ | refine Ext.trans ?_ (by assumption)))); (first | done | fail "no"))) (T1.out.ext (Ext.refl _))).mono ?_); rw [X3.out]; rintro e1 v4 ⟨rfl, hx4⟩)
      | (have hg := hx2; clear hg; go_at_call 65; (with_reducible refine (of_any 12 _ (HT.out.ext (HC6.out.trans (by (with_reducible (repeat (first | exact Ext.refl _ | assumption | (refine Ext.toSet ?_ (by omega)) | refine Ext.toAlloc ?_ | refine Ext.toDrew ?_ | refine Ext.toDrewN ?_ | refine Ext.trans ?_ (by assumption)))); (first | done | fail "no")))) (by decide) (by decide)).mono ?_); rw [Et1.out]; rintro e1 v3 ⟨A8, c8, rfl, hon, hx3⟩; have T1 := Lib.hid (Dy.of_on hon Vt1.out.1 Vt1.out.2 (Ext.refl _)); clear hon)
      | (have hg := hx1; clear hg; go_at_call 64; (with_reducible refine (itext_any (HD5'.out _ (by (with_reducible (repeat (first | exact Ext.refl _ | assumption | (refine Ext.toSet ?_ (by omega)) | refine Ext.toAlloc ?_ | refine Ext.toDrew ?_ | refine Ext.toDrewN ?_ | refine Ext.trans ?_ (by assumption)))); (first | done | fail "no"))) (HP.out.ext (HC6.out.trans (by (with_reducible (repeat (first | exact Ext.refl _ | assumption | (refine Ext.toSet ?_ (by omega)) | refine Ext.toAlloc ?_ | refine Ext.toDrew ?_ | refine Ext.toDrewN ?_ | refine Ext.trans ?_ (by assumption)))); (first | done | fail "no"))))).mono ?_); rw [X2.out]; rintro e1 v2 ⟨rfl, hx2⟩)
      | (go_at_call 64; (with_reducible refine (itext_any (HD3'.out _ (by (with_reducible (repeat (first | exact Ext.refl _ | assumption | (refine Ext.toSet ?_ (by omega)) | refine Ext.toAlloc ?_ | refine Ext.toDrew ?_ | refine Ext.toDrewN ?_ | refine Ext.trans ?_ (by assumption)))); (first | done | fail "no"))) (HP.out.ext (HC6.out.trans (by (with_reducible (repeat (first | exact Ext.refl _ | assumption | (refine Ext.toSet ?_ (by omega)) | refine Ext.toAlloc ?_ | refine Ext.toDrew ?_ | refine Ext.toDrewN ?_ | refine Ext.trans ?_ (by assumption)))); (first | done | fail "no"))))).mono ?_); rw [X1.out]; rintro e1 v1 ⟨rfl, hx1⟩))
  all_goals
    have HF := Lib.hid (HC6.out.trans (show Ext W6 v6 from (by (with_reducible (repeat (first | exact Ext.refl _ | assumption | (refine Ext.toSet ?_ (by omega)) | refine Ext.toAlloc ?_ | refine Ext.toDrew ?_ | refine Ext.toDrewN ?_ | refine Ext.trans ?_ (by assumption)))); (first | done | fail "no"))))
    go_wp2_with fail
    go_ret
    exact ⟨rfl, HF.out⟩

end Go.Proofs.YtcdkkohklhmpgaaGreatDoor

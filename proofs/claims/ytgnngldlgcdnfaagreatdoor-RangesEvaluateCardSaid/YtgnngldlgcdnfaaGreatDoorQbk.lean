import Derived.Test.YtgnngldlgcdnfaaGreatDoorQbd
import Derived.Test.YtgnngldlgcdnfaaGreatDoorQbg
import Derived.Test.YtgnngldlgcdnfaaGreatDoorQbj
import Derived.Test.YtgnngldlgcdnfaaGreatDoorQaz
import Derived.Test.YtgnngldlgcdnfaaGreatDoorQay
import Derived.Test.YtgnngldlgcdnfaaGreatDoorQba
import Derived.Deep.RegionHeld3
namespace Go.Proofs.YtgnngldlgcdnfaaGreatDoor
open Go Go.RowKit
attribute [local go_sem ↓] Go.wp_at_zero Go.wp_at_succ
structure RkM (w W1 : World) (b : Blk) (Ab : Option Addr) (cb : Nat) : Prop where
 ext : Ext w W1
 k0 : W1.cell? ⟨w.heap.size, 0, none⟩ = some (I b.k)
 k2 : W1.cell? ⟨w.heap.size, 2, none⟩ = some (I b.vn)
 k3 : W1.cell? ⟨w.heap.size, 3, none⟩ = some (I b.ve)
 k4 : W1.cell? ⟨w.heap.size, 4, none⟩ = some (I b.un)
 k5 : W1.cell? ⟨w.heap.size, 5, none⟩ = some (I b.ue)
 rs : B6 W1 (w.heap.size + 1) (.bool false) (.slice none 0 0) (I 0) (.bool false) (.slice none 0 0) (I 0)
 sz : W1.heap.size = w.heap.size + 2
abbrev rkW (w : World) (b : Blk) (Ab : Option Addr) (cb : Nat) (t1 t2 : TypeId) : World := (w.alloc (.cells #[I b.k, .slice Ab b.n cb, I b.vn, I b.ve, I b.un, I b.ue] t1)).alloc (.cells #[.bool false, .slice none 0 0, I 0, .bool false, .slice none 0 0, I 0] t2)
theorem RkM.new (w : World) (b : Blk) (Ab : Option Addr) (cb : Nat) (t1 t2 : TypeId) : RkM w (rkW w b Ab cb t1 t2) b Ab cb := by
 have n1 : ¬ w.heap.size = w.heap.size + 1 := by omega
 refine ⟨(Ext.alloc _ _).trans (Ext.alloc _ _), ?_, ?_, ?_, ?_, ?_, ?_, by simp⟩
 ·go_simp
 ·go_simp
 ·go_simp
 ·go_simp
 ·go_simp
 ·have := B6.new (w.alloc (.cells #[I b.k, .slice Ab b.n cb, I b.vn, I b.ve, I b.un, I b.ue] t1)) (.bool false) (.slice none 0 0) (I 0) (.bool false) (.slice none 0 0) (I 0) t2
  rwa [show (w.alloc (.cells #[I b.k, .slice Ab b.n cb, I b.vn, I b.ve, I b.un, I b.ue] t1)).heap.size = w.heap.size + 1 by simp] at this
theorem abs_ends {a b : DV} (ha : a.ok) (hb : b.ok) : (conB a b DV.zero = true → absL a b = DV.zero ∧ absH a b = hi2 (absD a) (absD b)) ∧ (conB a b DV.zero = false → absL a b = lo2 (absD a) (absD b) ∧ absH a b = hi2 (absD a) (absD b)) := by
 have oa := absD_ok a; have ob := absD_ok b
 have m1 := minD_ok oa ob; have m2 := maxD_ok oa ob
 constructor
 ·intro h
  unfold absL absH
  rw [if_pos h, if_pos h]
  refine ⟨DV.uniq (minD_ok m1 DV.zero_ok) DV.zero_ok ?_, DV.uniq (maxD_ok m2 DV.zero_ok) m2 ?_⟩
  ·show (minD (minD (absD a) (absD b)) DV.zero).q = DV.zero.q
   rw [q_min m1 DV.zero_ok, q_min oa ob, q_absD ha, q_absD hb, q_zero]
   unfold mnQ mxQ; grind
  ·show (maxD (maxD (absD a) (absD b)) DV.zero).q = (maxD (absD a) (absD b)).q
   rw [q_max m2 DV.zero_ok, q_max oa ob, q_absD ha, q_absD hb, q_zero]
   unfold mxQ; grind
 ·intro h
  unfold absL absH
  rw [if_neg (by rw [h]; decide), if_neg (by rw [h]; decide)]
  exact ⟨rfl, rfl⟩
set_option maxRecDepth 100000 in
set_option maxHeartbeats 2000000 in
theorem rrk_const {w : World} {b : Blk} {Ab A : Option Addr} {cb n c : Nat} (hk : b.k = 1) (hV : -2147483648 < b.vn ∧ b.vn < 2147483648 ∧ -62 ≤ b.ve ∧ b.ve ≤ 30) :
  Calls Tryz.prog 39 #[bkv b.k Ab b.n cb b.vn b.ve b.un b.ue, .slice A n c] w (IvRes (nmS b.vn b.ve) (nmS b.vn b.ve) w) := by
 obtain ⟨W1, hW1⟩ : ∃ W1, W1 = rkW w b Ab cb 79 58 := ⟨_, rfl⟩
 have hM : RkM w W1 b Ab cb := by rw [hW1]; exact RkM.new _ _ _ _ _ _
 have hz := hM.sz
 have HM := Lib.hid hM
 have HNV : Hid (∀ w', Ext W1 w' → Calls Tryz.prog 37 #[.agg #[I b.vn, I b.ve]] w' (DyRes (nmS b.vn b.ve) w')) := fun w' e => rvalue_any _ _ _ hV.1 hV.2.1 hV.2.2.1 hV.2.2.2
 have HLV : Hid ((nmS b.vn b.ve).ok ∧ len (nmS b.vn b.ve).m ≤ 16777216 ∧ len (nmS b.vn b.ve).m ≤ 1048576) := ⟨nmS_ok _ _, (nmS_len hV.1 hV.2.1 hV.2.2.2).2, Nat.le_trans (nmS_len' (by omega) (by omega) hV.2.2.2) (by decide)⟩
 have k2 := hM.k2; have k3 := hM.k3
 have k0 := hM.k0
 rw [hk] at k0
 clear hM hV
 rw [hk]
 unfold rkW at hW1
 rw [hk] at hW1
 clear hk
 go_enter Tryz.func39, Tryz.ntmps39
 go_upto_region 3 with fail
 rw [← hW1]; clear hW1
 have hx : Ext W1 W1 := Ext.refl _
 generalize hs : nmS b.vn b.ve = u at *
 clear hs
 have HPT : Hid (∀ w' A2 c2, Cn w' (cnR u A2 c2) u → Calls Tryz.prog 96 #[dv u.neg A2 (len u.m) c2 u.den] w' fun e w'' => e = .returned (ivd u A2 c2 u A2 c2) ∧ Ext w' w'') := fun w' A2 c2 cn => rpoint_any cn.dy
 go_wp2_with (first
  | (go_at_call 37; (with_reducible refine (HNV.out _ hx).mono ?_); rintro e1 w0 hr0; obtain ⟨A2, c2, rfl, fa0, hx0⟩ := hr0.fr HLV.out.1 HLV.out.2.1; have FA0 := Lib.hid fa0; have CN0 := Lib.hid (Cn.of fa0.rd fa0.ok HLV.out.1 HLV.out.2.1); have HX0 := Lib.hid (hx.trans hx0); clear fa0 hx0)
  | (go_at_call 96; (with_reducible refine (HPT.out _ _ _ CN0.out).mono ?_); rintro e1 w1 ⟨rfl, hx1⟩; have FA := Lib.hid (FA0.out.ext hx1); have HX2 := Lib.hid (HX0.out.trans hx1); obtain ⟨⟨q0, q1, q2, q3, q4, q5⟩, rf⟩ := HM.out.rs.ext HX2.out; have f0 := rf 0; have f1 := rf 1; have f2 := rf 2; have f3 := rf 3; have f4 := rf 4; have f5 := rf 5; clear rf; have hsz := hx.size; clear hx1))
 exact bodyPost_ret (v := ivd u A2 c2 u A2 c2) (by simp [results, Tryz.results39, go_sem, q0, q1, q2, q3, q4, q5]) rfl (IvRes.end6 rfl FA.out FA.out (HM.out.ext.trans HX2.out) (by omega) (by first | omega | (simp; omega)) (by first | omega | (simp; omega)))
set_option maxRecDepth 100000 in
set_option maxHeartbeats 2000000 in
theorem rrk_add {w : World} {b : Blk} {Ab A : Option Addr} {cb n c : Nat} {R : Nat → RI} {V : Nat → IV} (hk : b.k = 3) (l : LnI w A n R V) (hn : 2 ≤ n) :
  Calls Tryz.prog 39 #[bkv b.k Ab b.n cb b.vn b.ve b.un b.ue, .slice A n c] w (IvRes (lo2 (addD (V 0).lo (V 1).lo) (addD (V 0).hi (V 1).hi)) (hi2 (addD (V 0).lo (V 1).lo) (addD (V 0).hi (V 1).hi)) w) := by
 obtain ⟨W1, hW1⟩ : ∃ W1, W1 = rkW w b Ab cb 79 58 := ⟨_, rfl⟩
 have hM : RkM w W1 b Ab cb := by rw [hW1]; exact RkM.new _ _ _ _ _ _
 have hz := hM.sz
 have HM := Lib.hid hM
 obtain ⟨bb, oo, rfl, hbb, hcc⟩ := l.rn (by omega)
 obtain ⟨x00, x01, x02, x03, x04, x05⟩ := hcc 0 (by omega)
 have HC0 : Hid (∀ w', Ext W1 w' → CnI w' (R 0) (V 0)) := fun w' e => (l.el 0 (by omega)).ext (hM.ext.trans e)
 obtain ⟨x10, x11, x12, x13, x14, x15⟩ := hcc 1 (by omega)
 have HC1 : Hid (∀ w', Ext W1 w' → CnI w' (R 1) (V 1)) := fun w' e => (l.el 1 (by omega)).ext (hM.ext.trans e)
 simp only [Nat.zero_mul, Nat.add_zero, Nat.one_mul] at x00 x01 x02 x03 x04 x05 x10 x11 x12 x13 x14 x15
 have HF : Hid (∀ w', Ext W1 w' → Calls Tryz.prog 91 #[(R 0).v, (R 1).v] w' (IvRes (lo2 (addD (V 0).lo (V 1).lo) (addD (V 0).hi (V 1).hi)) (hi2 (addD (V 0).lo (V 1).lo) (addD (V 0).hi (V 1).hi)) w')) := fun w' e => riadd_any (HC0.out w' e).iw (HC1.out w' e).iw
 have HS : Hid (∀ w', Ext W1 w' → w'.cell? ⟨bb, oo, none⟩ = some (.bool (R 0).lo.neg) ∧ w'.cell? ⟨bb, oo + 1, none⟩ = some (.slice (R 0).lo.A (R 0).lo.n (R 0).lo.c) ∧ w'.cell? ⟨bb, oo + 2, none⟩ = some (I (R 0).lo.den) ∧ w'.cell? ⟨bb, oo + 3, none⟩ = some (.bool (R 0).hi.neg) ∧ w'.cell? ⟨bb, oo + 4, none⟩ = some (.slice (R 0).hi.A (R 0).hi.n (R 0).hi.c) ∧ w'.cell? ⟨bb, oo + 5, none⟩ = some (I (R 0).hi.den) ∧ w'.cell? ⟨bb, oo + 6, none⟩ = some (.bool (R 1).lo.neg) ∧ w'.cell? ⟨bb, oo + 6 + 1, none⟩ = some (.slice (R 1).lo.A (R 1).lo.n (R 1).lo.c) ∧ w'.cell? ⟨bb, oo + 6 + 2, none⟩ = some (I (R 1).lo.den) ∧ w'.cell? ⟨bb, oo + 6 + 3, none⟩ = some (.bool (R 1).hi.neg) ∧ w'.cell? ⟨bb, oo + 6 + 4, none⟩ = some (.slice (R 1).hi.A (R 1).hi.n (R 1).hi.c) ∧ w'.cell? ⟨bb, oo + 6 + 5, none⟩ = some (I (R 1).hi.den)) := fun w' e =>
  ⟨((hM.ext.trans e).old.1 _ _ hbb).trans x00, ((hM.ext.trans e).old.1 _ _ hbb).trans x01, ((hM.ext.trans e).old.1 _ _ hbb).trans x02, ((hM.ext.trans e).old.1 _ _ hbb).trans x03, ((hM.ext.trans e).old.1 _ _ hbb).trans x04, ((hM.ext.trans e).old.1 _ _ hbb).trans x05, ((hM.ext.trans e).old.1 _ _ hbb).trans x10, ((hM.ext.trans e).old.1 _ _ hbb).trans x11, ((hM.ext.trans e).old.1 _ _ hbb).trans x12, ((hM.ext.trans e).old.1 _ _ hbb).trans x13, ((hM.ext.trans e).old.1 _ _ hbb).trans x14, ((hM.ext.trans e).old.1 _ _ hbb).trans x15⟩
 obtain ⟨u, hu⟩ : ∃ u, lo2 (addD (V 0).lo (V 1).lo) (addD (V 0).hi (V 1).hi) = u := ⟨_, rfl⟩
 obtain ⟨v, hv⟩ : ∃ v, hi2 (addD (V 0).lo (V 1).lo) (addD (V 0).hi (V 1).hi) = v := ⟨_, rfl⟩
 rw [hu, hv] at HF ⊢
 clear hu hv HC0 HC1
 have k0 := hM.k0
 rw [hk] at k0
 have n1 : ¬ bb = w.heap.size + 1 := by omega
 clear hM l hcc x00 x01 x02 x03 x04 x05 x10 x11 x12 x13 x14 x15
 rw [hk]
 unfold rkW at hW1
 rw [hk] at hW1
 clear hk
 go_enter Tryz.func39, Tryz.ntmps39
 go_upto_region 5 with fail
 rw [← hW1]; clear hW1
 have hx : Ext W1 W1 := Ext.refl _
 have hn0 : (0 : Int) < (n : Int) := by omega
 have hn0' : 0 < n := by omega
 have hn1 : (1 : Int) < (n : Int) := by omega
 have hn1' : 1 < n := by omega
 generalize R 0 = r0 at *
 generalize R 1 = r1 at *
 go_region_held3 (fun w' => w'.cell? ⟨bb, oo, none⟩ = some (.bool r0.lo.neg) ∧ w'.cell? ⟨bb, oo + 1, none⟩ = some (.slice r0.lo.A r0.lo.n r0.lo.c) ∧ w'.cell? ⟨bb, oo + 2, none⟩ = some (I r0.lo.den) ∧ w'.cell? ⟨bb, oo + 3, none⟩ = some (.bool r0.hi.neg) ∧ w'.cell? ⟨bb, oo + 4, none⟩ = some (.slice r0.hi.A r0.hi.n r0.hi.c) ∧ w'.cell? ⟨bb, oo + 5, none⟩ = some (I r0.hi.den) ∧ w'.cell? ⟨bb, oo + 6, none⟩ = some (.bool r1.lo.neg) ∧ w'.cell? ⟨bb, oo + 6 + 1, none⟩ = some (.slice r1.lo.A r1.lo.n r1.lo.c) ∧ w'.cell? ⟨bb, oo + 6 + 2, none⟩ = some (I r1.lo.den) ∧ w'.cell? ⟨bb, oo + 6 + 3, none⟩ = some (.bool r1.hi.neg) ∧ w'.cell? ⟨bb, oo + 6 + 4, none⟩ = some (.slice r1.hi.A r1.hi.n r1.hi.c) ∧ w'.cell? ⟨bb, oo + 6 + 5, none⟩ = some (I r1.hi.den)) (first | exact HS.out _ ex2 | (refine ⟨?_, ?_, ?_, ?_, ?_, ?_, ?_, ?_, ?_, ?_, ?_, ?_⟩ <;> (rw [cell_far6' (by omega)]; assumption)))
  ((go_at_call 91; (with_reducible refine (HF.out _ (hx.trans ex2)).mono ?_); rintro e1 w1 ⟨A2, c2, B2, k2', rfl, fa, fb, hx2⟩; have FA := Lib.hid fa; have FB := Lib.hid fb; have HX2 := Lib.hid (show Ext W1 w1 from ex2); obtain ⟨p0, p1, p2, p3, p4, p5, p6, p7, p8, p9, p10, p11⟩ := HS.out _ HX2.out; obtain ⟨⟨q0, q1, q2, q3, q4, q5⟩, rf⟩ := HM.out.rs.ext HX2.out; have f0 := rf 0; have f1 := rf 1; have f2 := rf 2; have f3 := rf 3; have f4 := rf 4; have f5 := rf 5; clear rf; clear fa fb))
 all_goals
  go_wp2_with fail
  exact bodyPost_ret (v := ivd u A2 c2 v B2 k2') (by simp [results, Tryz.results39, go_sem, q0, q1, q2, q3, q4, q5]) rfl (IvRes.end6 rfl FA.out FB.out (HM.out.ext.trans HX2.out) (by omega) (by first | omega | (simp; omega)) (by first | omega | (simp; omega)))
set_option maxRecDepth 100000 in
set_option maxHeartbeats 2000000 in
theorem rrk_sub {w : World} {b : Blk} {Ab A : Option Addr} {cb n c : Nat} {R : Nat → RI} {V : Nat → IV} (hk : b.k = 4) (l : LnI w A n R V) (hn : 2 ≤ n) (hs1 : ShI (V 1)) :
  Calls Tryz.prog 39 #[bkv b.k Ab b.n cb b.vn b.ve b.un b.ue, .slice A n c] w (IvRes (lo2 (addD (V 0).lo (lo2 (negD (V 1).lo) (negD (V 1).hi))) (addD (V 0).hi (hi2 (negD (V 1).lo) (negD (V 1).hi)))) (hi2 (addD (V 0).lo (lo2 (negD (V 1).lo) (negD (V 1).hi))) (addD (V 0).hi (hi2 (negD (V 1).lo) (negD (V 1).hi)))) w) := by
 obtain ⟨W1, hW1⟩ : ∃ W1, W1 = rkW w b Ab cb 79 58 := ⟨_, rfl⟩
 have hM : RkM w W1 b Ab cb := by rw [hW1]; exact RkM.new _ _ _ _ _ _
 have hz := hM.sz
 have HM := Lib.hid hM
 obtain ⟨bb, oo, rfl, hbb, hcc⟩ := l.rn (by omega)
 obtain ⟨x00, x01, x02, x03, x04, x05⟩ := hcc 0 (by omega)
 have HC0 : Hid (∀ w', Ext W1 w' → CnI w' (R 0) (V 0)) := fun w' e => (l.el 0 (by omega)).ext (hM.ext.trans e)
 obtain ⟨x10, x11, x12, x13, x14, x15⟩ := hcc 1 (by omega)
 have HC1 : Hid (∀ w', Ext W1 w' → CnI w' (R 1) (V 1)) := fun w' e => (l.el 1 (by omega)).ext (hM.ext.trans e)
 simp only [Nat.zero_mul, Nat.add_zero, Nat.one_mul] at x00 x01 x02 x03 x04 x05 x10 x11 x12 x13 x14 x15
 have HF : Hid (∀ w', Ext W1 w' → Calls Tryz.prog 97 #[(R 0).v, (R 1).v] w' (IvRes (lo2 (addD (V 0).lo (lo2 (negD (V 1).lo) (negD (V 1).hi))) (addD (V 0).hi (hi2 (negD (V 1).lo) (negD (V 1).hi)))) (hi2 (addD (V 0).lo (lo2 (negD (V 1).lo) (negD (V 1).hi))) (addD (V 0).hi (hi2 (negD (V 1).lo) (negD (V 1).hi)))) w')) := fun w' e => risub_any (HC0.out w' e).iw (HC1.out w' e).iw (Nat.le_trans hs1.1.len (by decide)) (Nat.le_trans hs1.2.1.len (by decide))
 have HS : Hid (∀ w', Ext W1 w' → w'.cell? ⟨bb, oo, none⟩ = some (.bool (R 0).lo.neg) ∧ w'.cell? ⟨bb, oo + 1, none⟩ = some (.slice (R 0).lo.A (R 0).lo.n (R 0).lo.c) ∧ w'.cell? ⟨bb, oo + 2, none⟩ = some (I (R 0).lo.den) ∧ w'.cell? ⟨bb, oo + 3, none⟩ = some (.bool (R 0).hi.neg) ∧ w'.cell? ⟨bb, oo + 4, none⟩ = some (.slice (R 0).hi.A (R 0).hi.n (R 0).hi.c) ∧ w'.cell? ⟨bb, oo + 5, none⟩ = some (I (R 0).hi.den) ∧ w'.cell? ⟨bb, oo + 6, none⟩ = some (.bool (R 1).lo.neg) ∧ w'.cell? ⟨bb, oo + 6 + 1, none⟩ = some (.slice (R 1).lo.A (R 1).lo.n (R 1).lo.c) ∧ w'.cell? ⟨bb, oo + 6 + 2, none⟩ = some (I (R 1).lo.den) ∧ w'.cell? ⟨bb, oo + 6 + 3, none⟩ = some (.bool (R 1).hi.neg) ∧ w'.cell? ⟨bb, oo + 6 + 4, none⟩ = some (.slice (R 1).hi.A (R 1).hi.n (R 1).hi.c) ∧ w'.cell? ⟨bb, oo + 6 + 5, none⟩ = some (I (R 1).hi.den)) := fun w' e =>
  ⟨((hM.ext.trans e).old.1 _ _ hbb).trans x00, ((hM.ext.trans e).old.1 _ _ hbb).trans x01, ((hM.ext.trans e).old.1 _ _ hbb).trans x02, ((hM.ext.trans e).old.1 _ _ hbb).trans x03, ((hM.ext.trans e).old.1 _ _ hbb).trans x04, ((hM.ext.trans e).old.1 _ _ hbb).trans x05, ((hM.ext.trans e).old.1 _ _ hbb).trans x10, ((hM.ext.trans e).old.1 _ _ hbb).trans x11, ((hM.ext.trans e).old.1 _ _ hbb).trans x12, ((hM.ext.trans e).old.1 _ _ hbb).trans x13, ((hM.ext.trans e).old.1 _ _ hbb).trans x14, ((hM.ext.trans e).old.1 _ _ hbb).trans x15⟩
 obtain ⟨u, hu⟩ : ∃ u, lo2 (addD (V 0).lo (lo2 (negD (V 1).lo) (negD (V 1).hi))) (addD (V 0).hi (hi2 (negD (V 1).lo) (negD (V 1).hi))) = u := ⟨_, rfl⟩
 obtain ⟨v, hv⟩ : ∃ v, hi2 (addD (V 0).lo (lo2 (negD (V 1).lo) (negD (V 1).hi))) (addD (V 0).hi (hi2 (negD (V 1).lo) (negD (V 1).hi))) = v := ⟨_, rfl⟩
 rw [hu, hv] at HF ⊢
 clear hu hv HC0 HC1
 have k0 := hM.k0
 rw [hk] at k0
 have n1 : ¬ bb = w.heap.size + 1 := by omega
 clear hM l hcc x00 x01 x02 x03 x04 x05 x10 x11 x12 x13 x14 x15 hs1
 rw [hk]
 unfold rkW at hW1
 rw [hk] at hW1
 clear hk
 go_enter Tryz.func39, Tryz.ntmps39
 go_upto_region 7 with fail
 rw [← hW1]; clear hW1
 have hx : Ext W1 W1 := Ext.refl _
 have hn0 : (0 : Int) < (n : Int) := by omega
 have hn0' : 0 < n := by omega
 have hn1 : (1 : Int) < (n : Int) := by omega
 have hn1' : 1 < n := by omega
 generalize R 0 = r0 at *
 generalize R 1 = r1 at *
 go_region_held3 (fun w' => w'.cell? ⟨bb, oo, none⟩ = some (.bool r0.lo.neg) ∧ w'.cell? ⟨bb, oo + 1, none⟩ = some (.slice r0.lo.A r0.lo.n r0.lo.c) ∧ w'.cell? ⟨bb, oo + 2, none⟩ = some (I r0.lo.den) ∧ w'.cell? ⟨bb, oo + 3, none⟩ = some (.bool r0.hi.neg) ∧ w'.cell? ⟨bb, oo + 4, none⟩ = some (.slice r0.hi.A r0.hi.n r0.hi.c) ∧ w'.cell? ⟨bb, oo + 5, none⟩ = some (I r0.hi.den) ∧ w'.cell? ⟨bb, oo + 6, none⟩ = some (.bool r1.lo.neg) ∧ w'.cell? ⟨bb, oo + 6 + 1, none⟩ = some (.slice r1.lo.A r1.lo.n r1.lo.c) ∧ w'.cell? ⟨bb, oo + 6 + 2, none⟩ = some (I r1.lo.den) ∧ w'.cell? ⟨bb, oo + 6 + 3, none⟩ = some (.bool r1.hi.neg) ∧ w'.cell? ⟨bb, oo + 6 + 4, none⟩ = some (.slice r1.hi.A r1.hi.n r1.hi.c) ∧ w'.cell? ⟨bb, oo + 6 + 5, none⟩ = some (I r1.hi.den)) (first | exact HS.out _ ex2 | (refine ⟨?_, ?_, ?_, ?_, ?_, ?_, ?_, ?_, ?_, ?_, ?_, ?_⟩ <;> (rw [cell_far6' (by omega)]; assumption)))
  ((go_at_call 97; (with_reducible refine (HF.out _ (hx.trans ex2)).mono ?_); rintro e1 w1 ⟨A2, c2, B2, k2', rfl, fa, fb, hx2⟩; have FA := Lib.hid fa; have FB := Lib.hid fb; have HX2 := Lib.hid (show Ext W1 w1 from ex2); obtain ⟨p0, p1, p2, p3, p4, p5, p6, p7, p8, p9, p10, p11⟩ := HS.out _ HX2.out; obtain ⟨⟨q0, q1, q2, q3, q4, q5⟩, rf⟩ := HM.out.rs.ext HX2.out; have f0 := rf 0; have f1 := rf 1; have f2 := rf 2; have f3 := rf 3; have f4 := rf 4; have f5 := rf 5; clear rf; clear fa fb))
 all_goals
  go_wp2_with fail
  exact bodyPost_ret (v := ivd u A2 c2 v B2 k2') (by simp [results, Tryz.results39, go_sem, q0, q1, q2, q3, q4, q5]) rfl (IvRes.end6 rfl FA.out FB.out (HM.out.ext.trans HX2.out) (by omega) (by first | omega | (simp; omega)) (by first | omega | (simp; omega)))
set_option maxRecDepth 100000 in
set_option maxHeartbeats 2000000 in
theorem rrk_mul {w : World} {b : Blk} {Ab A : Option Addr} {cb n c : Nat} {R : Nat → RI} {V : Nat → IV} (hk : b.k = 7) (l : LnI w A n R V) (hn : 2 ≤ n) :
  Calls Tryz.prog 39 #[bkv b.k Ab b.n cb b.vn b.ve b.un b.ue, .slice A n c] w (IvRes (lo4 (mulD (V 0).lo (V 1).lo) (mulD (V 0).lo (V 1).hi) (mulD (V 0).hi (V 1).lo) (mulD (V 0).hi (V 1).hi)) (hi4 (mulD (V 0).lo (V 1).lo) (mulD (V 0).lo (V 1).hi) (mulD (V 0).hi (V 1).lo) (mulD (V 0).hi (V 1).hi)) w) := by
 obtain ⟨W1, hW1⟩ : ∃ W1, W1 = rkW w b Ab cb 79 58 := ⟨_, rfl⟩
 have hM : RkM w W1 b Ab cb := by rw [hW1]; exact RkM.new _ _ _ _ _ _
 have hz := hM.sz
 have HM := Lib.hid hM
 obtain ⟨bb, oo, rfl, hbb, hcc⟩ := l.rn (by omega)
 obtain ⟨x00, x01, x02, x03, x04, x05⟩ := hcc 0 (by omega)
 have HC0 : Hid (∀ w', Ext W1 w' → CnI w' (R 0) (V 0)) := fun w' e => (l.el 0 (by omega)).ext (hM.ext.trans e)
 obtain ⟨x10, x11, x12, x13, x14, x15⟩ := hcc 1 (by omega)
 have HC1 : Hid (∀ w', Ext W1 w' → CnI w' (R 1) (V 1)) := fun w' e => (l.el 1 (by omega)).ext (hM.ext.trans e)
 simp only [Nat.zero_mul, Nat.add_zero, Nat.one_mul] at x00 x01 x02 x03 x04 x05 x10 x11 x12 x13 x14 x15
 have HF : Hid (∀ w', Ext W1 w' → Calls Tryz.prog 100 #[(R 0).v, (R 1).v] w' (IvRes (lo4 (mulD (V 0).lo (V 1).lo) (mulD (V 0).lo (V 1).hi) (mulD (V 0).hi (V 1).lo) (mulD (V 0).hi (V 1).hi)) (hi4 (mulD (V 0).lo (V 1).lo) (mulD (V 0).lo (V 1).hi) (mulD (V 0).hi (V 1).lo) (mulD (V 0).hi (V 1).hi)) w')) := fun w' e => rimul_any (HC0.out w' e).iw (HC1.out w' e).iw
 have HS : Hid (∀ w', Ext W1 w' → w'.cell? ⟨bb, oo, none⟩ = some (.bool (R 0).lo.neg) ∧ w'.cell? ⟨bb, oo + 1, none⟩ = some (.slice (R 0).lo.A (R 0).lo.n (R 0).lo.c) ∧ w'.cell? ⟨bb, oo + 2, none⟩ = some (I (R 0).lo.den) ∧ w'.cell? ⟨bb, oo + 3, none⟩ = some (.bool (R 0).hi.neg) ∧ w'.cell? ⟨bb, oo + 4, none⟩ = some (.slice (R 0).hi.A (R 0).hi.n (R 0).hi.c) ∧ w'.cell? ⟨bb, oo + 5, none⟩ = some (I (R 0).hi.den) ∧ w'.cell? ⟨bb, oo + 6, none⟩ = some (.bool (R 1).lo.neg) ∧ w'.cell? ⟨bb, oo + 6 + 1, none⟩ = some (.slice (R 1).lo.A (R 1).lo.n (R 1).lo.c) ∧ w'.cell? ⟨bb, oo + 6 + 2, none⟩ = some (I (R 1).lo.den) ∧ w'.cell? ⟨bb, oo + 6 + 3, none⟩ = some (.bool (R 1).hi.neg) ∧ w'.cell? ⟨bb, oo + 6 + 4, none⟩ = some (.slice (R 1).hi.A (R 1).hi.n (R 1).hi.c) ∧ w'.cell? ⟨bb, oo + 6 + 5, none⟩ = some (I (R 1).hi.den)) := fun w' e =>
  ⟨((hM.ext.trans e).old.1 _ _ hbb).trans x00, ((hM.ext.trans e).old.1 _ _ hbb).trans x01, ((hM.ext.trans e).old.1 _ _ hbb).trans x02, ((hM.ext.trans e).old.1 _ _ hbb).trans x03, ((hM.ext.trans e).old.1 _ _ hbb).trans x04, ((hM.ext.trans e).old.1 _ _ hbb).trans x05, ((hM.ext.trans e).old.1 _ _ hbb).trans x10, ((hM.ext.trans e).old.1 _ _ hbb).trans x11, ((hM.ext.trans e).old.1 _ _ hbb).trans x12, ((hM.ext.trans e).old.1 _ _ hbb).trans x13, ((hM.ext.trans e).old.1 _ _ hbb).trans x14, ((hM.ext.trans e).old.1 _ _ hbb).trans x15⟩
 obtain ⟨u, hu⟩ : ∃ u, lo4 (mulD (V 0).lo (V 1).lo) (mulD (V 0).lo (V 1).hi) (mulD (V 0).hi (V 1).lo) (mulD (V 0).hi (V 1).hi) = u := ⟨_, rfl⟩
 obtain ⟨v, hv⟩ : ∃ v, hi4 (mulD (V 0).lo (V 1).lo) (mulD (V 0).lo (V 1).hi) (mulD (V 0).hi (V 1).lo) (mulD (V 0).hi (V 1).hi) = v := ⟨_, rfl⟩
 rw [hu, hv] at HF ⊢
 clear hu hv HC0 HC1
 have k0 := hM.k0
 rw [hk] at k0
 have n1 : ¬ bb = w.heap.size + 1 := by omega
 clear hM l hcc x00 x01 x02 x03 x04 x05 x10 x11 x12 x13 x14 x15
 rw [hk]
 unfold rkW at hW1
 rw [hk] at hW1
 clear hk
 go_enter Tryz.func39, Tryz.ntmps39
 go_upto_region 13 with fail
 rw [← hW1]; clear hW1
 have hx : Ext W1 W1 := Ext.refl _
 have hn0 : (0 : Int) < (n : Int) := by omega
 have hn0' : 0 < n := by omega
 have hn1 : (1 : Int) < (n : Int) := by omega
 have hn1' : 1 < n := by omega
 generalize R 0 = r0 at *
 generalize R 1 = r1 at *
 go_region_held3 (fun w' => w'.cell? ⟨bb, oo, none⟩ = some (.bool r0.lo.neg) ∧ w'.cell? ⟨bb, oo + 1, none⟩ = some (.slice r0.lo.A r0.lo.n r0.lo.c) ∧ w'.cell? ⟨bb, oo + 2, none⟩ = some (I r0.lo.den) ∧ w'.cell? ⟨bb, oo + 3, none⟩ = some (.bool r0.hi.neg) ∧ w'.cell? ⟨bb, oo + 4, none⟩ = some (.slice r0.hi.A r0.hi.n r0.hi.c) ∧ w'.cell? ⟨bb, oo + 5, none⟩ = some (I r0.hi.den) ∧ w'.cell? ⟨bb, oo + 6, none⟩ = some (.bool r1.lo.neg) ∧ w'.cell? ⟨bb, oo + 6 + 1, none⟩ = some (.slice r1.lo.A r1.lo.n r1.lo.c) ∧ w'.cell? ⟨bb, oo + 6 + 2, none⟩ = some (I r1.lo.den) ∧ w'.cell? ⟨bb, oo + 6 + 3, none⟩ = some (.bool r1.hi.neg) ∧ w'.cell? ⟨bb, oo + 6 + 4, none⟩ = some (.slice r1.hi.A r1.hi.n r1.hi.c) ∧ w'.cell? ⟨bb, oo + 6 + 5, none⟩ = some (I r1.hi.den)) (first | exact HS.out _ ex2 | (refine ⟨?_, ?_, ?_, ?_, ?_, ?_, ?_, ?_, ?_, ?_, ?_, ?_⟩ <;> (rw [cell_far6' (by omega)]; assumption)))
  ((go_at_call 100; (with_reducible refine (HF.out _ (hx.trans ex2)).mono ?_); rintro e1 w1 ⟨A2, c2, B2, k2', rfl, fa, fb, hx2⟩; have FA := Lib.hid fa; have FB := Lib.hid fb; have HX2 := Lib.hid (show Ext W1 w1 from ex2); obtain ⟨p0, p1, p2, p3, p4, p5, p6, p7, p8, p9, p10, p11⟩ := HS.out _ HX2.out; obtain ⟨⟨q0, q1, q2, q3, q4, q5⟩, rf⟩ := HM.out.rs.ext HX2.out; have f0 := rf 0; have f1 := rf 1; have f2 := rf 2; have f3 := rf 3; have f4 := rf 4; have f5 := rf 5; clear rf; clear fa fb))
 all_goals
  go_wp2_with fail
  exact bodyPost_ret (v := ivd u A2 c2 v B2 k2') (by simp [results, Tryz.results39, go_sem, q0, q1, q2, q3, q4, q5]) rfl (IvRes.end6 rfl FA.out FB.out (HM.out.ext.trans HX2.out) (by omega) (by first | omega | (simp; omega)) (by first | omega | (simp; omega)))
set_option maxRecDepth 100000 in
set_option maxHeartbeats 2000000 in
theorem rrk_min {w : World} {b : Blk} {Ab A : Option Addr} {cb n c : Nat} {R : Nat → RI} {V : Nat → IV} (hk : b.k = 8) (l : LnI w A n R V) (hn : 2 ≤ n) :
  Calls Tryz.prog 39 #[bkv b.k Ab b.n cb b.vn b.ve b.un b.ue, .slice A n c] w (IvRes (minD (V 0).lo (V 1).lo) (minD (V 0).hi (V 1).hi) w) := by
 obtain ⟨W1, hW1⟩ : ∃ W1, W1 = rkW w b Ab cb 79 58 := ⟨_, rfl⟩
 have hM : RkM w W1 b Ab cb := by rw [hW1]; exact RkM.new _ _ _ _ _ _
 have hz := hM.sz
 have HM := Lib.hid hM
 obtain ⟨bb, oo, rfl, hbb, hcc⟩ := l.rn (by omega)
 obtain ⟨x00, x01, x02, x03, x04, x05⟩ := hcc 0 (by omega)
 have HC0 : Hid (∀ w', Ext W1 w' → CnI w' (R 0) (V 0)) := fun w' e => (l.el 0 (by omega)).ext (hM.ext.trans e)
 obtain ⟨x10, x11, x12, x13, x14, x15⟩ := hcc 1 (by omega)
 have HC1 : Hid (∀ w', Ext W1 w' → CnI w' (R 1) (V 1)) := fun w' e => (l.el 1 (by omega)).ext (hM.ext.trans e)
 simp only [Nat.zero_mul, Nat.add_zero, Nat.one_mul] at x00 x01 x02 x03 x04 x05 x10 x11 x12 x13 x14 x15
 have HF : Hid (∀ w', Ext W1 w' → Calls Tryz.prog 101 #[(R 0).v, (R 1).v] w' (IvRes (minD (V 0).lo (V 1).lo) (minD (V 0).hi (V 1).hi) w')) := fun w' e => rimin_any (HC0.out w' e).iw (HC1.out w' e).iw
 have HS : Hid (∀ w', Ext W1 w' → w'.cell? ⟨bb, oo, none⟩ = some (.bool (R 0).lo.neg) ∧ w'.cell? ⟨bb, oo + 1, none⟩ = some (.slice (R 0).lo.A (R 0).lo.n (R 0).lo.c) ∧ w'.cell? ⟨bb, oo + 2, none⟩ = some (I (R 0).lo.den) ∧ w'.cell? ⟨bb, oo + 3, none⟩ = some (.bool (R 0).hi.neg) ∧ w'.cell? ⟨bb, oo + 4, none⟩ = some (.slice (R 0).hi.A (R 0).hi.n (R 0).hi.c) ∧ w'.cell? ⟨bb, oo + 5, none⟩ = some (I (R 0).hi.den) ∧ w'.cell? ⟨bb, oo + 6, none⟩ = some (.bool (R 1).lo.neg) ∧ w'.cell? ⟨bb, oo + 6 + 1, none⟩ = some (.slice (R 1).lo.A (R 1).lo.n (R 1).lo.c) ∧ w'.cell? ⟨bb, oo + 6 + 2, none⟩ = some (I (R 1).lo.den) ∧ w'.cell? ⟨bb, oo + 6 + 3, none⟩ = some (.bool (R 1).hi.neg) ∧ w'.cell? ⟨bb, oo + 6 + 4, none⟩ = some (.slice (R 1).hi.A (R 1).hi.n (R 1).hi.c) ∧ w'.cell? ⟨bb, oo + 6 + 5, none⟩ = some (I (R 1).hi.den)) := fun w' e =>
  ⟨((hM.ext.trans e).old.1 _ _ hbb).trans x00, ((hM.ext.trans e).old.1 _ _ hbb).trans x01, ((hM.ext.trans e).old.1 _ _ hbb).trans x02, ((hM.ext.trans e).old.1 _ _ hbb).trans x03, ((hM.ext.trans e).old.1 _ _ hbb).trans x04, ((hM.ext.trans e).old.1 _ _ hbb).trans x05, ((hM.ext.trans e).old.1 _ _ hbb).trans x10, ((hM.ext.trans e).old.1 _ _ hbb).trans x11, ((hM.ext.trans e).old.1 _ _ hbb).trans x12, ((hM.ext.trans e).old.1 _ _ hbb).trans x13, ((hM.ext.trans e).old.1 _ _ hbb).trans x14, ((hM.ext.trans e).old.1 _ _ hbb).trans x15⟩
 obtain ⟨u, hu⟩ : ∃ u, minD (V 0).lo (V 1).lo = u := ⟨_, rfl⟩
 obtain ⟨v, hv⟩ : ∃ v, minD (V 0).hi (V 1).hi = v := ⟨_, rfl⟩
 rw [hu, hv] at HF ⊢
 clear hu hv HC0 HC1
 have k0 := hM.k0
 rw [hk] at k0
 have n1 : ¬ bb = w.heap.size + 1 := by omega
 clear hM l hcc x00 x01 x02 x03 x04 x05 x10 x11 x12 x13 x14 x15
 rw [hk]
 unfold rkW at hW1
 rw [hk] at hW1
 clear hk
 go_enter Tryz.func39, Tryz.ntmps39
 go_upto_region 15 with fail
 rw [← hW1]; clear hW1
 have hx : Ext W1 W1 := Ext.refl _
 have hn0 : (0 : Int) < (n : Int) := by omega
 have hn0' : 0 < n := by omega
 have hn1 : (1 : Int) < (n : Int) := by omega
 have hn1' : 1 < n := by omega
 generalize R 0 = r0 at *
 generalize R 1 = r1 at *
 go_region_held3 (fun w' => w'.cell? ⟨bb, oo, none⟩ = some (.bool r0.lo.neg) ∧ w'.cell? ⟨bb, oo + 1, none⟩ = some (.slice r0.lo.A r0.lo.n r0.lo.c) ∧ w'.cell? ⟨bb, oo + 2, none⟩ = some (I r0.lo.den) ∧ w'.cell? ⟨bb, oo + 3, none⟩ = some (.bool r0.hi.neg) ∧ w'.cell? ⟨bb, oo + 4, none⟩ = some (.slice r0.hi.A r0.hi.n r0.hi.c) ∧ w'.cell? ⟨bb, oo + 5, none⟩ = some (I r0.hi.den) ∧ w'.cell? ⟨bb, oo + 6, none⟩ = some (.bool r1.lo.neg) ∧ w'.cell? ⟨bb, oo + 6 + 1, none⟩ = some (.slice r1.lo.A r1.lo.n r1.lo.c) ∧ w'.cell? ⟨bb, oo + 6 + 2, none⟩ = some (I r1.lo.den) ∧ w'.cell? ⟨bb, oo + 6 + 3, none⟩ = some (.bool r1.hi.neg) ∧ w'.cell? ⟨bb, oo + 6 + 4, none⟩ = some (.slice r1.hi.A r1.hi.n r1.hi.c) ∧ w'.cell? ⟨bb, oo + 6 + 5, none⟩ = some (I r1.hi.den)) (first | exact HS.out _ ex2 | (refine ⟨?_, ?_, ?_, ?_, ?_, ?_, ?_, ?_, ?_, ?_, ?_, ?_⟩ <;> (rw [cell_far6' (by omega)]; assumption)))
  ((go_at_call 101; (with_reducible refine (HF.out _ (hx.trans ex2)).mono ?_); rintro e1 w1 ⟨A2, c2, B2, k2', rfl, fa, fb, hx2⟩; have FA := Lib.hid fa; have FB := Lib.hid fb; have HX2 := Lib.hid (show Ext W1 w1 from ex2); obtain ⟨p0, p1, p2, p3, p4, p5, p6, p7, p8, p9, p10, p11⟩ := HS.out _ HX2.out; obtain ⟨⟨q0, q1, q2, q3, q4, q5⟩, rf⟩ := HM.out.rs.ext HX2.out; have f0 := rf 0; have f1 := rf 1; have f2 := rf 2; have f3 := rf 3; have f4 := rf 4; have f5 := rf 5; clear rf; clear fa fb))
 all_goals
  go_wp2_with fail
  exact bodyPost_ret (v := ivd u A2 c2 v B2 k2') (by simp [results, Tryz.results39, go_sem, q0, q1, q2, q3, q4, q5]) rfl (IvRes.end6 rfl FA.out FB.out (HM.out.ext.trans HX2.out) (by omega) (by first | omega | (simp; omega)) (by first | omega | (simp; omega)))
set_option maxRecDepth 100000 in
set_option maxHeartbeats 2000000 in
theorem rrk_max {w : World} {b : Blk} {Ab A : Option Addr} {cb n c : Nat} {R : Nat → RI} {V : Nat → IV} (hk : b.k = 9) (l : LnI w A n R V) (hn : 2 ≤ n) :
  Calls Tryz.prog 39 #[bkv b.k Ab b.n cb b.vn b.ve b.un b.ue, .slice A n c] w (IvRes (maxD (V 0).lo (V 1).lo) (maxD (V 0).hi (V 1).hi) w) := by
 obtain ⟨W1, hW1⟩ : ∃ W1, W1 = rkW w b Ab cb 79 58 := ⟨_, rfl⟩
 have hM : RkM w W1 b Ab cb := by rw [hW1]; exact RkM.new _ _ _ _ _ _
 have hz := hM.sz
 have HM := Lib.hid hM
 obtain ⟨bb, oo, rfl, hbb, hcc⟩ := l.rn (by omega)
 obtain ⟨x00, x01, x02, x03, x04, x05⟩ := hcc 0 (by omega)
 have HC0 : Hid (∀ w', Ext W1 w' → CnI w' (R 0) (V 0)) := fun w' e => (l.el 0 (by omega)).ext (hM.ext.trans e)
 obtain ⟨x10, x11, x12, x13, x14, x15⟩ := hcc 1 (by omega)
 have HC1 : Hid (∀ w', Ext W1 w' → CnI w' (R 1) (V 1)) := fun w' e => (l.el 1 (by omega)).ext (hM.ext.trans e)
 simp only [Nat.zero_mul, Nat.add_zero, Nat.one_mul] at x00 x01 x02 x03 x04 x05 x10 x11 x12 x13 x14 x15
 have HF : Hid (∀ w', Ext W1 w' → Calls Tryz.prog 102 #[(R 0).v, (R 1).v] w' (IvRes (maxD (V 0).lo (V 1).lo) (maxD (V 0).hi (V 1).hi) w')) := fun w' e => rimax_any (HC0.out w' e).iw (HC1.out w' e).iw
 have HS : Hid (∀ w', Ext W1 w' → w'.cell? ⟨bb, oo, none⟩ = some (.bool (R 0).lo.neg) ∧ w'.cell? ⟨bb, oo + 1, none⟩ = some (.slice (R 0).lo.A (R 0).lo.n (R 0).lo.c) ∧ w'.cell? ⟨bb, oo + 2, none⟩ = some (I (R 0).lo.den) ∧ w'.cell? ⟨bb, oo + 3, none⟩ = some (.bool (R 0).hi.neg) ∧ w'.cell? ⟨bb, oo + 4, none⟩ = some (.slice (R 0).hi.A (R 0).hi.n (R 0).hi.c) ∧ w'.cell? ⟨bb, oo + 5, none⟩ = some (I (R 0).hi.den) ∧ w'.cell? ⟨bb, oo + 6, none⟩ = some (.bool (R 1).lo.neg) ∧ w'.cell? ⟨bb, oo + 6 + 1, none⟩ = some (.slice (R 1).lo.A (R 1).lo.n (R 1).lo.c) ∧ w'.cell? ⟨bb, oo + 6 + 2, none⟩ = some (I (R 1).lo.den) ∧ w'.cell? ⟨bb, oo + 6 + 3, none⟩ = some (.bool (R 1).hi.neg) ∧ w'.cell? ⟨bb, oo + 6 + 4, none⟩ = some (.slice (R 1).hi.A (R 1).hi.n (R 1).hi.c) ∧ w'.cell? ⟨bb, oo + 6 + 5, none⟩ = some (I (R 1).hi.den)) := fun w' e =>
  ⟨((hM.ext.trans e).old.1 _ _ hbb).trans x00, ((hM.ext.trans e).old.1 _ _ hbb).trans x01, ((hM.ext.trans e).old.1 _ _ hbb).trans x02, ((hM.ext.trans e).old.1 _ _ hbb).trans x03, ((hM.ext.trans e).old.1 _ _ hbb).trans x04, ((hM.ext.trans e).old.1 _ _ hbb).trans x05, ((hM.ext.trans e).old.1 _ _ hbb).trans x10, ((hM.ext.trans e).old.1 _ _ hbb).trans x11, ((hM.ext.trans e).old.1 _ _ hbb).trans x12, ((hM.ext.trans e).old.1 _ _ hbb).trans x13, ((hM.ext.trans e).old.1 _ _ hbb).trans x14, ((hM.ext.trans e).old.1 _ _ hbb).trans x15⟩
 obtain ⟨u, hu⟩ : ∃ u, maxD (V 0).lo (V 1).lo = u := ⟨_, rfl⟩
 obtain ⟨v, hv⟩ : ∃ v, maxD (V 0).hi (V 1).hi = v := ⟨_, rfl⟩
 rw [hu, hv] at HF ⊢
 clear hu hv HC0 HC1
 have k0 := hM.k0
 rw [hk] at k0
 have n1 : ¬ bb = w.heap.size + 1 := by omega
 clear hM l hcc x00 x01 x02 x03 x04 x05 x10 x11 x12 x13 x14 x15
 rw [hk]
 unfold rkW at hW1
 rw [hk] at hW1
 clear hk
 go_enter Tryz.func39, Tryz.ntmps39
 go_upto_region 17 with fail
 rw [← hW1]; clear hW1
 have hx : Ext W1 W1 := Ext.refl _
 have hn0 : (0 : Int) < (n : Int) := by omega
 have hn0' : 0 < n := by omega
 have hn1 : (1 : Int) < (n : Int) := by omega
 have hn1' : 1 < n := by omega
 generalize R 0 = r0 at *
 generalize R 1 = r1 at *
 go_region_held3 (fun w' => w'.cell? ⟨bb, oo, none⟩ = some (.bool r0.lo.neg) ∧ w'.cell? ⟨bb, oo + 1, none⟩ = some (.slice r0.lo.A r0.lo.n r0.lo.c) ∧ w'.cell? ⟨bb, oo + 2, none⟩ = some (I r0.lo.den) ∧ w'.cell? ⟨bb, oo + 3, none⟩ = some (.bool r0.hi.neg) ∧ w'.cell? ⟨bb, oo + 4, none⟩ = some (.slice r0.hi.A r0.hi.n r0.hi.c) ∧ w'.cell? ⟨bb, oo + 5, none⟩ = some (I r0.hi.den) ∧ w'.cell? ⟨bb, oo + 6, none⟩ = some (.bool r1.lo.neg) ∧ w'.cell? ⟨bb, oo + 6 + 1, none⟩ = some (.slice r1.lo.A r1.lo.n r1.lo.c) ∧ w'.cell? ⟨bb, oo + 6 + 2, none⟩ = some (I r1.lo.den) ∧ w'.cell? ⟨bb, oo + 6 + 3, none⟩ = some (.bool r1.hi.neg) ∧ w'.cell? ⟨bb, oo + 6 + 4, none⟩ = some (.slice r1.hi.A r1.hi.n r1.hi.c) ∧ w'.cell? ⟨bb, oo + 6 + 5, none⟩ = some (I r1.hi.den)) (first | exact HS.out _ ex2 | (refine ⟨?_, ?_, ?_, ?_, ?_, ?_, ?_, ?_, ?_, ?_, ?_, ?_⟩ <;> (rw [cell_far6' (by omega)]; assumption)))
  ((go_at_call 102; (with_reducible refine (HF.out _ (hx.trans ex2)).mono ?_); rintro e1 w1 ⟨A2, c2, B2, k2', rfl, fa, fb, hx2⟩; have FA := Lib.hid fa; have FB := Lib.hid fb; have HX2 := Lib.hid (show Ext W1 w1 from ex2); obtain ⟨p0, p1, p2, p3, p4, p5, p6, p7, p8, p9, p10, p11⟩ := HS.out _ HX2.out; obtain ⟨⟨q0, q1, q2, q3, q4, q5⟩, rf⟩ := HM.out.rs.ext HX2.out; have f0 := rf 0; have f1 := rf 1; have f2 := rf 2; have f3 := rf 3; have f4 := rf 4; have f5 := rf 5; clear rf; clear fa fb))
 all_goals
  go_wp2_with fail
  exact bodyPost_ret (v := ivd u A2 c2 v B2 k2') (by simp [results, Tryz.results39, go_sem, q0, q1, q2, q3, q4, q5]) rfl (IvRes.end6 rfl FA.out FB.out (HM.out.ext.trans HX2.out) (by omega) (by first | omega | (simp; omega)) (by first | omega | (simp; omega)))
set_option maxRecDepth 100000 in
set_option maxHeartbeats 2000000 in
theorem rrk_neg {w : World} {b : Blk} {Ab A : Option Addr} {cb n c : Nat} {R : Nat → RI} {V : Nat → IV} (hk : b.k = 5) (l : LnI w A n R V) (hn : 1 ≤ n) :
  Calls Tryz.prog 39 #[bkv b.k Ab b.n cb b.vn b.ve b.un b.ue, .slice A n c] w (IvRes (lo2 (negD (V 0).lo) (negD (V 0).hi)) (hi2 (negD (V 0).lo) (negD (V 0).hi)) w) := by
 obtain ⟨W1, hW1⟩ : ∃ W1, W1 = rkW w b Ab cb 79 58 := ⟨_, rfl⟩
 have hM : RkM w W1 b Ab cb := by rw [hW1]; exact RkM.new _ _ _ _ _ _
 have hz := hM.sz
 have HM := Lib.hid hM
 obtain ⟨bb, oo, rfl, hbb, hcc⟩ := l.rn (by omega)
 obtain ⟨x00, x01, x02, x03, x04, x05⟩ := hcc 0 (by omega)
 have HC0 : Hid (∀ w', Ext W1 w' → CnI w' (R 0) (V 0)) := fun w' e => (l.el 0 (by omega)).ext (hM.ext.trans e)
 simp only [Nat.zero_mul, Nat.add_zero] at x00 x01 x02 x03 x04 x05
 have HF : Hid (∀ w', Ext W1 w' → Calls Tryz.prog 98 #[(R 0).v] w' (IvRes (lo2 (negD (V 0).lo) (negD (V 0).hi)) (hi2 (negD (V 0).lo) (negD (V 0).hi)) w')) := fun w' e => rineg_any (HC0.out w' e).iw
 have y0 := (hM.ext.old.1 _ _ hbb).trans x00
 have y1 := (hM.ext.old.1 _ _ hbb).trans x01
 have y2 := (hM.ext.old.1 _ _ hbb).trans x02
 have y3 := (hM.ext.old.1 _ _ hbb).trans x03
 have y4 := (hM.ext.old.1 _ _ hbb).trans x04
 have y5 := (hM.ext.old.1 _ _ hbb).trans x05
 obtain ⟨u, hu⟩ : ∃ u, lo2 (negD (V 0).lo) (negD (V 0).hi) = u := ⟨_, rfl⟩
 obtain ⟨v, hv⟩ : ∃ v, hi2 (negD (V 0).lo) (negD (V 0).hi) = v := ⟨_, rfl⟩
 rw [hu, hv] at HF ⊢
 clear hu hv HC0
 have k0 := hM.k0
 rw [hk] at k0
 clear hM l hcc x00 x01 x02 x03 x04 x05
 rw [hk]
 unfold rkW at hW1
 rw [hk] at hW1
 clear hk
 go_enter Tryz.func39, Tryz.ntmps39
 go_upto_region 9 with fail
 rw [← hW1]; clear hW1
 have hx : Ext W1 W1 := Ext.refl _
 have hn0 : (0 : Int) < (n : Int) := by omega
 have hn0' : 0 < n := by omega
 generalize R 0 = r0 at *
 go_wp2_with (go_at_call 98; (with_reducible refine (HF.out _ hx).mono ?_); rintro e1 w1 hr; obtain ⟨A2, c2, B2, k2', rfl, fa, fb, hx2⟩ := hr; have FA := Lib.hid fa; have FB := Lib.hid fb; have HX2 := Lib.hid (hx.trans hx2); obtain ⟨⟨q0, q1, q2, q3, q4, q5⟩, rf⟩ := HM.out.rs.ext HX2.out; have f0 := rf 0; have f1 := rf 1; have f2 := rf 2; have f3 := rf 3; have f4 := rf 4; have f5 := rf 5; clear rf; have hsz := hx.size; clear fa fb hx2)
 exact bodyPost_ret (v := ivd u A2 c2 v B2 k2') (by simp [results, Tryz.results39, go_sem, q0, q1, q2, q3, q4, q5]) rfl (IvRes.end6 rfl FA.out FB.out (HM.out.ext.trans HX2.out) (by omega) (by first | omega | (simp; omega)) (by first | omega | (simp; omega)))
set_option maxRecDepth 100000 in
set_option maxHeartbeats 2000000 in
theorem rrk_abs {w : World} {b : Blk} {Ab A : Option Addr} {cb n c : Nat} {R : Nat → RI} {V : Nat → IV} (hk : b.k = 10) (l : LnI w A n R V) (hn : 1 ≤ n) :
  Calls Tryz.prog 39 #[bkv b.k Ab b.n cb b.vn b.ve b.un b.ue, .slice A n c] w (IvRes (absL (V 0).lo (V 0).hi) (absH (V 0).lo (V 0).hi) w) := by
 obtain ⟨W1, hW1⟩ : ∃ W1, W1 = rkW w b Ab cb 79 58 := ⟨_, rfl⟩
 have hM : RkM w W1 b Ab cb := by rw [hW1]; exact RkM.new _ _ _ _ _ _
 have hz := hM.sz
 have HM := Lib.hid hM
 obtain ⟨bb, oo, rfl, hbb, hcc⟩ := l.rn (by omega)
 obtain ⟨x00, x01, x02, x03, x04, x05⟩ := hcc 0 (by omega)
 have HC0 : Hid (∀ w', Ext W1 w' → CnI w' (R 0) (V 0)) := fun w' e => (l.el 0 (by omega)).ext (hM.ext.trans e)
 simp only [Nat.zero_mul, Nat.add_zero] at x00 x01 x02 x03 x04 x05
 have HF : Hid (∀ w', Ext W1 w' → Calls Tryz.prog 103 #[(R 0).v] w' (IvRes (absL (V 0).lo (V 0).hi) (absH (V 0).lo (V 0).hi) w')) := fun w' e => by
  have h0 := HC0.out w' e
  have ab := abs_ends h0.lo.ok h0.hi.ok
  cases hc : conB (V 0).lo (V 0).hi DV.zero with
  | true => rw [(ab.1 hc).1, (ab.1 hc).2]; exact riabs_true h0.iw hc
  | false => rw [(ab.2 hc).1, (ab.2 hc).2]; exact riabs_false h0.iw hc
 have y0 := (hM.ext.old.1 _ _ hbb).trans x00
 have y1 := (hM.ext.old.1 _ _ hbb).trans x01
 have y2 := (hM.ext.old.1 _ _ hbb).trans x02
 have y3 := (hM.ext.old.1 _ _ hbb).trans x03
 have y4 := (hM.ext.old.1 _ _ hbb).trans x04
 have y5 := (hM.ext.old.1 _ _ hbb).trans x05
 obtain ⟨u, hu⟩ : ∃ u, absL (V 0).lo (V 0).hi = u := ⟨_, rfl⟩
 obtain ⟨v, hv⟩ : ∃ v, absH (V 0).lo (V 0).hi = v := ⟨_, rfl⟩
 rw [hu, hv] at HF ⊢
 clear hu hv HC0
 have k0 := hM.k0
 rw [hk] at k0
 clear hM l hcc x00 x01 x02 x03 x04 x05
 rw [hk]
 unfold rkW at hW1
 rw [hk] at hW1
 clear hk
 go_enter Tryz.func39, Tryz.ntmps39
 go_upto_region 19 with fail
 rw [← hW1]; clear hW1
 have hx : Ext W1 W1 := Ext.refl _
 have hn0 : (0 : Int) < (n : Int) := by omega
 have hn0' : 0 < n := by omega
 generalize R 0 = r0 at *
 go_wp2_with (go_at_call 103; (with_reducible refine (HF.out _ hx).mono ?_); rintro e1 w1 hr; obtain ⟨A2, c2, B2, k2', rfl, fa, fb, hx2⟩ := hr; have FA := Lib.hid fa; have FB := Lib.hid fb; have HX2 := Lib.hid (hx.trans hx2); obtain ⟨⟨q0, q1, q2, q3, q4, q5⟩, rf⟩ := HM.out.rs.ext HX2.out; have f0 := rf 0; have f1 := rf 1; have f2 := rf 2; have f3 := rf 3; have f4 := rf 4; have f5 := rf 5; clear rf; have hsz := hx.size; clear fa fb hx2)
 exact bodyPost_ret (v := ivd u A2 c2 v B2 k2') (by simp [results, Tryz.results39, go_sem, q0, q1, q2, q3, q4, q5]) rfl (IvRes.end6 rfl FA.out FB.out (HM.out.ext.trans HX2.out) (by omega) (by first | omega | (simp; omega)) (by first | omega | (simp; omega)))
set_option maxRecDepth 100000 in
set_option maxHeartbeats 2000000 in
theorem rrk_gain {w : World} {b : Blk} {Ab A : Option Addr} {cb n c : Nat} {R : Nat → RI} {V : Nat → IV} (hk : b.k = 6) (l : LnI w A n R V) (hn : 1 ≤ n) (hV : -2147483648 < b.vn ∧ b.vn < 2147483648 ∧ -62 ≤ b.ve ∧ b.ve ≤ 30) :
  Calls Tryz.prog 39 #[bkv b.k Ab b.n cb b.vn b.ve b.un b.ue, .slice A n c] w (IvRes (lo2 (mulD (V 0).lo (nmS b.vn b.ve)) (mulD (V 0).hi (nmS b.vn b.ve))) (hi2 (mulD (V 0).lo (nmS b.vn b.ve)) (mulD (V 0).hi (nmS b.vn b.ve))) w) := by
 obtain ⟨W1, hW1⟩ : ∃ W1, W1 = rkW w b Ab cb 79 58 := ⟨_, rfl⟩
 have hM : RkM w W1 b Ab cb := by rw [hW1]; exact RkM.new _ _ _ _ _ _
 have hz := hM.sz
 have HM := Lib.hid hM
 obtain ⟨bb, oo, rfl, hbb, hcc⟩ := l.rn (by omega)
 obtain ⟨x00, x01, x02, x03, x04, x05⟩ := hcc 0 (by omega)
 have HC0 : Hid (∀ w', Ext W1 w' → CnI w' (R 0) (V 0)) := fun w' e => (l.el 0 (by omega)).ext (hM.ext.trans e)
 simp only [Nat.zero_mul, Nat.add_zero] at x00 x01 x02 x03 x04 x05
 have HNV : Hid (∀ w', Ext W1 w' → Calls Tryz.prog 37 #[.agg #[I b.vn, I b.ve]] w' (DyRes (nmS b.vn b.ve) w')) := fun w' e => rvalue_any _ _ _ hV.1 hV.2.1 hV.2.2.1 hV.2.2.2
 have HLV : Hid ((nmS b.vn b.ve).ok ∧ len (nmS b.vn b.ve).m ≤ 16777216 ∧ len (nmS b.vn b.ve).m ≤ 1048576) := ⟨nmS_ok _ _, (nmS_len hV.1 hV.2.1 hV.2.2.2).2, Nat.le_trans (nmS_len' (by omega) (by omega) hV.2.2.2) (by decide)⟩
 have HF : Hid (∀ w' A2 c2, Ext W1 w' → Cn w' (cnR (nmS b.vn b.ve) A2 c2) (nmS b.vn b.ve) → Calls Tryz.prog 99 #[(R 0).v, (cnR (nmS b.vn b.ve) A2 c2).v] w' (IvRes (lo2 (mulD (V 0).lo (nmS b.vn b.ve)) (mulD (V 0).hi (nmS b.vn b.ve))) (hi2 (mulD (V 0).lo (nmS b.vn b.ve)) (mulD (V 0).hi (nmS b.vn b.ve))) w')) := fun w' A2 c2 e cn => riscale_any (HC0.out w' e).iw cn.dy HLV.out.2.2
 have HS : Hid (∀ w', Ext W1 w' → w'.cell? ⟨bb, oo, none⟩ = some (.bool (R 0).lo.neg) ∧ w'.cell? ⟨bb, oo + 1, none⟩ = some (.slice (R 0).lo.A (R 0).lo.n (R 0).lo.c) ∧ w'.cell? ⟨bb, oo + 2, none⟩ = some (I (R 0).lo.den) ∧ w'.cell? ⟨bb, oo + 3, none⟩ = some (.bool (R 0).hi.neg) ∧ w'.cell? ⟨bb, oo + 4, none⟩ = some (.slice (R 0).hi.A (R 0).hi.n (R 0).hi.c) ∧ w'.cell? ⟨bb, oo + 5, none⟩ = some (I (R 0).hi.den) ∧ w'.cell? ⟨w.heap.size, 2, none⟩ = some (I b.vn) ∧ w'.cell? ⟨w.heap.size, 3, none⟩ = some (I b.ve)) := fun w' e =>
  ⟨((hM.ext.trans e).old.1 _ _ hbb).trans x00, ((hM.ext.trans e).old.1 _ _ hbb).trans x01, ((hM.ext.trans e).old.1 _ _ hbb).trans x02, ((hM.ext.trans e).old.1 _ _ hbb).trans x03, ((hM.ext.trans e).old.1 _ _ hbb).trans x04, ((hM.ext.trans e).old.1 _ _ hbb).trans x05, (e.old.1 _ _ (by omega)).trans hM.k2, (e.old.1 _ _ (by omega)).trans hM.k3⟩
 obtain ⟨u, hu⟩ : ∃ u, lo2 (mulD (V 0).lo (nmS b.vn b.ve)) (mulD (V 0).hi (nmS b.vn b.ve)) = u := ⟨_, rfl⟩
 obtain ⟨v, hv⟩ : ∃ v, hi2 (mulD (V 0).lo (nmS b.vn b.ve)) (mulD (V 0).hi (nmS b.vn b.ve)) = v := ⟨_, rfl⟩
 rw [hu, hv] at HF ⊢
 clear hu hv HC0
 have k0 := hM.k0
 rw [hk] at k0
 have n1 : ¬ bb = w.heap.size + 1 := by omega
 clear hM l hcc x00 x01 x02 x03 x04 x05 hV
 rw [hk]
 unfold rkW at hW1
 rw [hk] at hW1
 clear hk
 go_enter Tryz.func39, Tryz.ntmps39
 go_upto_region 11 with fail
 rw [← hW1]; clear hW1
 have hx : Ext W1 W1 := Ext.refl _
 have hn0 : (0 : Int) < (n : Int) := by omega
 have hn0' : 0 < n := by omega
 generalize R 0 = r0 at *
 generalize hlo : nmS b.vn b.ve = lv at *
 clear hlo
 go_region_held3 (fun w' => w'.cell? ⟨bb, oo, none⟩ = some (.bool r0.lo.neg) ∧ w'.cell? ⟨bb, oo + 1, none⟩ = some (.slice r0.lo.A r0.lo.n r0.lo.c) ∧ w'.cell? ⟨bb, oo + 2, none⟩ = some (I r0.lo.den) ∧ w'.cell? ⟨bb, oo + 3, none⟩ = some (.bool r0.hi.neg) ∧ w'.cell? ⟨bb, oo + 4, none⟩ = some (.slice r0.hi.A r0.hi.n r0.hi.c) ∧ w'.cell? ⟨bb, oo + 5, none⟩ = some (I r0.hi.den) ∧ w'.cell? ⟨w.heap.size, 2, none⟩ = some (I b.vn) ∧ w'.cell? ⟨w.heap.size, 3, none⟩ = some (I b.ve)) (first | exact HS.out _ ex2 | (refine ⟨?_, ?_, ?_, ?_, ?_, ?_, ?_, ?_⟩ <;> (rw [cell_far6' (by omega)]; assumption)))
  (first
  | (go_at_call 37; (with_reducible refine (HNV.out _ ex2).mono ?_); rintro e1 w2 hr; obtain ⟨A0, y0, rfl, cn0, _, hx0⟩ := hr.cn HLV.out.1 HLV.out.2.1; have CN0 := Lib.hid cn0; have HX0 := Lib.hid (show Ext W1 w2 from ex2); clear hr cn0)
  | (go_at_call 99; (with_reducible refine (HF.out _ _ _ HX0.out CN0.out).mono ?_); rintro e1 w1 ⟨A2, c2, B2, k2', rfl, fa, fb, hx2⟩; have FA := Lib.hid fa; have FB := Lib.hid fb; have HX2 := Lib.hid (HX0.out.trans hx2); obtain ⟨p0, p1, p2, p3, p4, p5, p6, p7⟩ := HS.out _ HX2.out; obtain ⟨⟨q0, q1, q2, q3, q4, q5⟩, rf⟩ := HM.out.rs.ext HX2.out; have f0 := rf 0; have f1 := rf 1; have f2 := rf 2; have f3 := rf 3; have f4 := rf 4; have f5 := rf 5; clear rf; have hsz := HX0.out.size; clear fa fb))
 all_goals
  go_wp2_with fail
  exact bodyPost_ret (v := ivd u A2 c2 v B2 k2') (by simp [results, Tryz.results39, go_sem, q0, q1, q2, q3, q4, q5]) rfl (IvRes.end6 rfl FA.out FB.out (HM.out.ext.trans HX2.out) (by omega) (by first | omega | (simp; omega)) (by first | omega | (simp; omega)))
end Go.Proofs.YtgnngldlgcdnfaaGreatDoor

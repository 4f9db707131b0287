/- The reference of layer 11: the value of a block, kind by kind. -/
import Derived.Test.YtgnaljnmjphleaaGreatDoorExa
import Derived.Deep.RegionHeld3
namespace Go.Proofs.YtgnaljnmjphleaaGreatDoor
open Go Go.RowKit

/-- The boxes of a call of Block. -/
structure RbM (w W1 : World) (b : Blk) (Ab : Option Addr) (cb : Nat) : Prop where
  ext : Ext w W1
  k0 : W1.cell? ⟨w.heap.size, 0, none⟩ = some (I b.k)
  k2 : W1.cell? ⟨w.heap.size, 2, none⟩ = some (I b.vn)
  k3 : W1.cell? ⟨w.heap.size, 3, none⟩ = some (I b.ve)
  k4 : W1.cell? ⟨w.heap.size, 4, none⟩ = some (I b.un)
  k5 : W1.cell? ⟨w.heap.size, 5, none⟩ = some (I b.ue)
  rs : Bx W1 (w.heap.size + 1) (.bool false) (.slice none 0 0) (I 0)
  sz : W1.heap.size = w.heap.size + 2
abbrev rbW (w : World) (b : Blk) (Ab : Option Addr) (cb : Nat) (t1 t2 : TypeId) : World := (w.alloc (.cells #[I b.k, .slice Ab b.n cb, I b.vn, I b.ve, I b.un, I b.ue] t1)).alloc (.cells #[.bool false, .slice none 0 0, I 0] t2)
theorem RbM.new (w : World) (b : Blk) (Ab : Option Addr) (cb : Nat) (t1 t2 : TypeId) : RbM w (rbW w b Ab cb t1 t2) b Ab cb := by
  have n1 : ¬ w.heap.size = w.heap.size + 1 := by omega
  refine ⟨(Ext.alloc _ _).trans (Ext.alloc _ _), ?_, ?_, ?_, ?_, ?_, ?_, by simp⟩
  · go_simp
  · go_simp
  · go_simp
  · go_simp
  · go_simp
  · have := Bx.new (w.alloc (.cells #[I b.k, .slice Ab b.n cb, I b.vn, I b.ve, I b.un, I b.ue] t1)) (.bool false) (.slice none 0 0) (I 0) t2
    rwa [show (w.alloc (.cells #[I b.k, .slice Ab b.n cb, I b.vn, I b.ve, I b.un, I b.ue] t1)).heap.size = w.heap.size + 1 by simp] at this


set_option maxRecDepth 100000 in
set_option maxHeartbeats 1000000 in
theorem rblk_const {w : World} {b : Blk} {Ab A : Option Addr} {cb n c : Nat} (hk : b.k = 1) (hV : -2147483648 < b.vn ∧ b.vn < 2147483648 ∧ -62 ≤ b.ve ∧ b.ve ≤ 30) :
    Calls Tryz.prog 26 #[bkv b.k Ab b.n cb b.vn b.ve b.un b.ue, .slice A n c] w (DyRes (nmS b.vn b.ve) w) := by
  obtain ⟨W1, hW1⟩ : ∃ W1, W1 = rbW w b Ab cb 58 61 := ⟨_, rfl⟩
  have hM : RbM w W1 b Ab cb := by rw [hW1]; exact RbM.new _ _ _ _ _ _
  have hz := hM.sz
  have HM := Lib.hid hM
  have HNV : Hid (∀ w', Ext W1 w' → Calls Tryz.prog 42 #[.agg #[I b.vn, I b.ve]] w' (DyRes (nmS b.vn b.ve) w')) := fun w' e => rvalue_any _ _ _ hV.1 hV.2.1 hV.2.2.1 hV.2.2.2
  have HLV : Hid ((nmS b.vn b.ve).ok ∧ len (nmS b.vn b.ve).m ≤ 16777216) := ⟨nmS_ok _ _, (nmS_len hV.1 hV.2.1 hV.2.2.2).2⟩
  obtain ⟨d', hd'⟩ : ∃ d', nmS b.vn b.ve = d' := ⟨_, rfl⟩
  rw [hd'] at HNV ⊢
  clear hd' HLV
  have k2 := hM.k2; have k3 := hM.k3
  have k0 := hM.k0
  rw [hk] at k0
  clear hM hV
  rw [hk]
  unfold rbW at hW1
  rw [hk] at hW1
  clear hk
  go_enter Tryz.func26, Tryz.ntmps26
  go_upto_region 1 with fail
  rw [← hW1]; clear hW1
  have hx : Ext W1 W1 := Ext.refl _
  go_wp2_with (go_at_call 42; (with_reducible refine (HNV.out _ hx).mono ?_); rintro e1 w1 hr; obtain ⟨A2, c2, rfl, hon, hx2⟩ := hr; have HO := Lib.hid hon; have HX2 := Lib.hid (hx.trans hx2); obtain ⟨⟨r0, r1, r2⟩, rf⟩ := HM.out.rs.ext (hx.trans hx2); have f0 := rf 0; have f1 := rf 1; have f2 := rf 2; have hsz := hx.size; clear rf hon hx2)
  exact bodyPost_ret (v := dv d'.neg A2 (len d'.m) c2 d'.den) (by simp [results, Tryz.results26, go_sem, r0, r1, r2]) rfl (DyRes.end3 rfl HO.out (HM.out.ext.trans HX2.out) (by omega) (by omega) (by omega))


set_option maxRecDepth 100000 in
set_option maxHeartbeats 1000000 in
theorem rblk_add {w : World} {b : Blk} {Ab A : Option Addr} {cb n c : Nat} {R : Nat → RN} {V : Nat → DV} (hk : b.k = 3) (l : Ln w A n R V) (hn : 2 ≤ n) :
    Calls Tryz.prog 26 #[bkv b.k Ab b.n cb b.vn b.ve b.un b.ue, .slice A n c] w (DyRes (addD (V 0) (V 1)) w) := by
  obtain ⟨W1, hW1⟩ : ∃ W1, W1 = rbW w b Ab cb 58 61 := ⟨_, rfl⟩
  have hM : RbM w W1 b Ab cb := by rw [hW1]; exact RbM.new _ _ _ _ _ _
  have hz := hM.sz
  have HM := Lib.hid hM
  obtain ⟨bb, oo, rfl, hbb, hcc⟩ := l.rn (by omega)
  obtain ⟨x00, x01, x02⟩ := hcc 0 (by omega)
  have HC0 : Hid (∀ w', Ext W1 w' → Cn w' (R 0) (V 0)) := fun w' e => (l.el 0 (by omega)).ext (hM.ext.trans e)
  obtain ⟨x10, x11, x12⟩ := hcc 1 (by omega)
  have HC1 : Hid (∀ w', Ext W1 w' → Cn w' (R 1) (V 1)) := fun w' e => (l.el 1 (by omega)).ext (hM.ext.trans e)
  simp only [Nat.zero_mul, Nat.add_zero, Nat.one_mul] at x00 x01 x02 x10 x11 x12
  have HF : Hid (∀ w', Ext W1 w' → Calls Tryz.prog 52 #[(R 0).v, (R 1).v] w' (DyRes (addD (V 0) (V 1)) w')) := fun w' e => radd_any (HC0.out w' e).dy (HC1.out w' e).dy
  have HS : Hid (∀ w', Ext W1 w' → (w'.cell? ⟨bb, oo, none⟩ = some (.bool (R 0).neg) ∧ w'.cell? ⟨bb, oo + 1, none⟩ = some (.slice (R 0).A (R 0).n (R 0).c) ∧ w'.cell? ⟨bb, oo + 2, none⟩ = some (I (R 0).den)) ∧ w'.cell? ⟨bb, oo + 3, none⟩ = some (.bool (R 1).neg) ∧ w'.cell? ⟨bb, oo + 3 + 1, none⟩ = some (.slice (R 1).A (R 1).n (R 1).c) ∧ w'.cell? ⟨bb, oo + 3 + 2, none⟩ = some (I (R 1).den)) := fun w' e =>
    ⟨⟨((hM.ext.trans e).old.1 _ _ hbb).trans x00, ((hM.ext.trans e).old.1 _ _ hbb).trans x01, ((hM.ext.trans e).old.1 _ _ hbb).trans x02⟩, ((hM.ext.trans e).old.1 _ _ hbb).trans x10, ((hM.ext.trans e).old.1 _ _ hbb).trans x11, ((hM.ext.trans e).old.1 _ _ hbb).trans x12⟩
  obtain ⟨d', hd'⟩ : ∃ d', addD (V 0) (V 1) = d' := ⟨_, rfl⟩
  rw [hd'] at HF ⊢
  clear hd' HC0 HC1
  have n1 : ¬ bb = w.heap.size + 1 := by omega
  have k0 := hM.k0
  rw [hk] at k0
  clear hM l hcc x00 x01 x02 x10 x11 x12
  rw [hk]
  unfold rbW at hW1
  rw [hk] at hW1
  clear hk
  go_enter Tryz.func26, Tryz.ntmps26
  go_upto_region 5 with fail
  rw [← hW1]; clear hW1
  have hx : Ext W1 W1 := Ext.refl _
  have hn0 : (0 : Int) < (n : Int) := by omega
  have hn1 : (1 : Int) < (n : Int) := by omega
  have hn0' : 0 < n := by omega
  have hn1' : 1 < n := by omega
  generalize R 0 = r0 at *
  generalize R 1 = r1 at *
  go_region_held3 (fun w' => (w'.cell? ⟨bb, oo, none⟩ = some (.bool r0.neg) ∧ w'.cell? ⟨bb, oo + 1, none⟩ = some (.slice r0.A r0.n r0.c) ∧ w'.cell? ⟨bb, oo + 2, none⟩ = some (I r0.den)) ∧ w'.cell? ⟨bb, oo + 3, none⟩ = some (.bool r1.neg) ∧ w'.cell? ⟨bb, oo + 3 + 1, none⟩ = some (.slice r1.A r1.n r1.c) ∧ w'.cell? ⟨bb, oo + 3 + 2, none⟩ = some (I r1.den)) (first | exact HS.out _ (by (with_reducible (repeat (first | exact Ext.refl _ | assumption | (refine Ext.toSet ?_ (by omega)) | refine Ext.toAlloc ?_ | refine Ext.toDrew ?_ | refine Ext.toDrewN ?_ | refine Ext.trans ?_ (by assumption)))); (first | done | fail "no")) | (refine ⟨⟨?_, ?_, ?_⟩, ?_, ?_, ?_⟩ <;> (rw [cell_far3 (by omega)]; assumption)))
    ((go_at_call 52; (with_reducible refine (HF.out _ (hx.trans (by (with_reducible (repeat (first | exact Ext.refl _ | assumption | (refine Ext.toSet ?_ (by omega)) | refine Ext.toAlloc ?_ | refine Ext.toDrew ?_ | refine Ext.toDrewN ?_ | refine Ext.trans ?_ (by assumption)))); (first | done | fail "no")))).mono ?_); rintro e1 w1 ⟨A2, c2, rfl, hon, hx2⟩; have HO := Lib.hid hon; have HX2 := Lib.hid (show Ext W1 w1 from (by (with_reducible (repeat (first | exact Ext.refl _ | assumption | (refine Ext.toSet ?_ (by omega)) | refine Ext.toAlloc ?_ | refine Ext.toDrew ?_ | refine Ext.toDrewN ?_ | refine Ext.trans ?_ (by assumption)))); (first | done | fail "no"))); obtain ⟨⟨p0, p1, p2⟩, p3, p4, p5⟩ := HS.out _ HX2.out; obtain ⟨⟨q0, q1, q2⟩, rf⟩ := HM.out.rs.ext HX2.out; have f0 := rf 0; have f1 := rf 1; have f2 := rf 2; clear rf hon))
  all_goals
    go_wp2_with fail
    exact bodyPost_ret (v := dv d'.neg A2 (len d'.m) c2 d'.den) (by simp [results, Tryz.results26, go_sem, q0, q1, q2]) rfl (DyRes.end3 rfl HO.out (HM.out.ext.trans HX2.out) (by simp; omega) (by omega) (by simp; omega))


set_option maxRecDepth 100000 in
set_option maxHeartbeats 1000000 in
theorem rblk_sub {w : World} {b : Blk} {Ab A : Option Addr} {cb n c : Nat} {R : Nat → RN} {V : Nat → DV} (hk : b.k = 4) (l : Ln w A n R V) (hn : 2 ≤ n) :
    Calls Tryz.prog 26 #[bkv b.k Ab b.n cb b.vn b.ve b.un b.ue, .slice A n c] w (DyRes (subD (V 0) (V 1)) w) := by
  obtain ⟨W1, hW1⟩ : ∃ W1, W1 = rbW w b Ab cb 58 61 := ⟨_, rfl⟩
  have hM : RbM w W1 b Ab cb := by rw [hW1]; exact RbM.new _ _ _ _ _ _
  have hz := hM.sz
  have HM := Lib.hid hM
  obtain ⟨bb, oo, rfl, hbb, hcc⟩ := l.rn (by omega)
  obtain ⟨x00, x01, x02⟩ := hcc 0 (by omega)
  have HC0 : Hid (∀ w', Ext W1 w' → Cn w' (R 0) (V 0)) := fun w' e => (l.el 0 (by omega)).ext (hM.ext.trans e)
  obtain ⟨x10, x11, x12⟩ := hcc 1 (by omega)
  have HC1 : Hid (∀ w', Ext W1 w' → Cn w' (R 1) (V 1)) := fun w' e => (l.el 1 (by omega)).ext (hM.ext.trans e)
  simp only [Nat.zero_mul, Nat.add_zero, Nat.one_mul] at x00 x01 x02 x10 x11 x12
  have HF : Hid (∀ w', Ext W1 w' → Calls Tryz.prog 53 #[(R 0).v, (R 1).v] w' (DyRes (subD (V 0) (V 1)) w')) := fun w' e => rsub_any (HC0.out w' e).dy (HC1.out w' e).dy
  have HS : Hid (∀ w', Ext W1 w' → (w'.cell? ⟨bb, oo, none⟩ = some (.bool (R 0).neg) ∧ w'.cell? ⟨bb, oo + 1, none⟩ = some (.slice (R 0).A (R 0).n (R 0).c) ∧ w'.cell? ⟨bb, oo + 2, none⟩ = some (I (R 0).den)) ∧ w'.cell? ⟨bb, oo + 3, none⟩ = some (.bool (R 1).neg) ∧ w'.cell? ⟨bb, oo + 3 + 1, none⟩ = some (.slice (R 1).A (R 1).n (R 1).c) ∧ w'.cell? ⟨bb, oo + 3 + 2, none⟩ = some (I (R 1).den)) := fun w' e =>
    ⟨⟨((hM.ext.trans e).old.1 _ _ hbb).trans x00, ((hM.ext.trans e).old.1 _ _ hbb).trans x01, ((hM.ext.trans e).old.1 _ _ hbb).trans x02⟩, ((hM.ext.trans e).old.1 _ _ hbb).trans x10, ((hM.ext.trans e).old.1 _ _ hbb).trans x11, ((hM.ext.trans e).old.1 _ _ hbb).trans x12⟩
  obtain ⟨d', hd'⟩ : ∃ d', subD (V 0) (V 1) = d' := ⟨_, rfl⟩
  rw [hd'] at HF ⊢
  clear hd' HC0 HC1
  have n1 : ¬ bb = w.heap.size + 1 := by omega
  have k0 := hM.k0
  rw [hk] at k0
  clear hM l hcc x00 x01 x02 x10 x11 x12
  rw [hk]
  unfold rbW at hW1
  rw [hk] at hW1
  clear hk
  go_enter Tryz.func26, Tryz.ntmps26
  go_upto_region 7 with fail
  rw [← hW1]; clear hW1
  have hx : Ext W1 W1 := Ext.refl _
  have hn0 : (0 : Int) < (n : Int) := by omega
  have hn1 : (1 : Int) < (n : Int) := by omega
  have hn0' : 0 < n := by omega
  have hn1' : 1 < n := by omega
  generalize R 0 = r0 at *
  generalize R 1 = r1 at *
  go_region_held3 (fun w' => (w'.cell? ⟨bb, oo, none⟩ = some (.bool r0.neg) ∧ w'.cell? ⟨bb, oo + 1, none⟩ = some (.slice r0.A r0.n r0.c) ∧ w'.cell? ⟨bb, oo + 2, none⟩ = some (I r0.den)) ∧ w'.cell? ⟨bb, oo + 3, none⟩ = some (.bool r1.neg) ∧ w'.cell? ⟨bb, oo + 3 + 1, none⟩ = some (.slice r1.A r1.n r1.c) ∧ w'.cell? ⟨bb, oo + 3 + 2, none⟩ = some (I r1.den)) (first | exact HS.out _ (by (with_reducible (repeat (first | exact Ext.refl _ | assumption | (refine Ext.toSet ?_ (by omega)) | refine Ext.toAlloc ?_ | refine Ext.toDrew ?_ | refine Ext.toDrewN ?_ | refine Ext.trans ?_ (by assumption)))); (first | done | fail "no")) | (refine ⟨⟨?_, ?_, ?_⟩, ?_, ?_, ?_⟩ <;> (rw [cell_far3 (by omega)]; assumption)))
    ((go_at_call 53; (with_reducible refine (HF.out _ (hx.trans (by (with_reducible (repeat (first | exact Ext.refl _ | assumption | (refine Ext.toSet ?_ (by omega)) | refine Ext.toAlloc ?_ | refine Ext.toDrew ?_ | refine Ext.toDrewN ?_ | refine Ext.trans ?_ (by assumption)))); (first | done | fail "no")))).mono ?_); rintro e1 w1 ⟨A2, c2, rfl, hon, hx2⟩; have HO := Lib.hid hon; have HX2 := Lib.hid (show Ext W1 w1 from (by (with_reducible (repeat (first | exact Ext.refl _ | assumption | (refine Ext.toSet ?_ (by omega)) | refine Ext.toAlloc ?_ | refine Ext.toDrew ?_ | refine Ext.toDrewN ?_ | refine Ext.trans ?_ (by assumption)))); (first | done | fail "no"))); obtain ⟨⟨p0, p1, p2⟩, p3, p4, p5⟩ := HS.out _ HX2.out; obtain ⟨⟨q0, q1, q2⟩, rf⟩ := HM.out.rs.ext HX2.out; have f0 := rf 0; have f1 := rf 1; have f2 := rf 2; clear rf hon))
  all_goals
    go_wp2_with fail
    exact bodyPost_ret (v := dv d'.neg A2 (len d'.m) c2 d'.den) (by simp [results, Tryz.results26, go_sem, q0, q1, q2]) rfl (DyRes.end3 rfl HO.out (HM.out.ext.trans HX2.out) (by simp; omega) (by omega) (by simp; omega))


set_option maxRecDepth 100000 in
set_option maxHeartbeats 1000000 in
theorem rblk_mul {w : World} {b : Blk} {Ab A : Option Addr} {cb n c : Nat} {R : Nat → RN} {V : Nat → DV} (hk : b.k = 7) (l : Ln w A n R V) (hn : 2 ≤ n) :
    Calls Tryz.prog 26 #[bkv b.k Ab b.n cb b.vn b.ve b.un b.ue, .slice A n c] w (DyRes (mulD (V 0) (V 1)) w) := by
  obtain ⟨W1, hW1⟩ : ∃ W1, W1 = rbW w b Ab cb 58 61 := ⟨_, rfl⟩
  have hM : RbM w W1 b Ab cb := by rw [hW1]; exact RbM.new _ _ _ _ _ _
  have hz := hM.sz
  have HM := Lib.hid hM
  obtain ⟨bb, oo, rfl, hbb, hcc⟩ := l.rn (by omega)
  obtain ⟨x00, x01, x02⟩ := hcc 0 (by omega)
  have HC0 : Hid (∀ w', Ext W1 w' → Cn w' (R 0) (V 0)) := fun w' e => (l.el 0 (by omega)).ext (hM.ext.trans e)
  obtain ⟨x10, x11, x12⟩ := hcc 1 (by omega)
  have HC1 : Hid (∀ w', Ext W1 w' → Cn w' (R 1) (V 1)) := fun w' e => (l.el 1 (by omega)).ext (hM.ext.trans e)
  simp only [Nat.zero_mul, Nat.add_zero, Nat.one_mul] at x00 x01 x02 x10 x11 x12
  have HF : Hid (∀ w', Ext W1 w' → Calls Tryz.prog 55 #[(R 0).v, (R 1).v] w' (DyRes (mulD (V 0) (V 1)) w')) := fun w' e => rmul_any (HC0.out w' e).dy (HC1.out w' e).dy
  have HS : Hid (∀ w', Ext W1 w' → (w'.cell? ⟨bb, oo, none⟩ = some (.bool (R 0).neg) ∧ w'.cell? ⟨bb, oo + 1, none⟩ = some (.slice (R 0).A (R 0).n (R 0).c) ∧ w'.cell? ⟨bb, oo + 2, none⟩ = some (I (R 0).den)) ∧ w'.cell? ⟨bb, oo + 3, none⟩ = some (.bool (R 1).neg) ∧ w'.cell? ⟨bb, oo + 3 + 1, none⟩ = some (.slice (R 1).A (R 1).n (R 1).c) ∧ w'.cell? ⟨bb, oo + 3 + 2, none⟩ = some (I (R 1).den)) := fun w' e =>
    ⟨⟨((hM.ext.trans e).old.1 _ _ hbb).trans x00, ((hM.ext.trans e).old.1 _ _ hbb).trans x01, ((hM.ext.trans e).old.1 _ _ hbb).trans x02⟩, ((hM.ext.trans e).old.1 _ _ hbb).trans x10, ((hM.ext.trans e).old.1 _ _ hbb).trans x11, ((hM.ext.trans e).old.1 _ _ hbb).trans x12⟩
  obtain ⟨d', hd'⟩ : ∃ d', mulD (V 0) (V 1) = d' := ⟨_, rfl⟩
  rw [hd'] at HF ⊢
  clear hd' HC0 HC1
  have n1 : ¬ bb = w.heap.size + 1 := by omega
  have k0 := hM.k0
  rw [hk] at k0
  clear hM l hcc x00 x01 x02 x10 x11 x12
  rw [hk]
  unfold rbW at hW1
  rw [hk] at hW1
  clear hk
  go_enter Tryz.func26, Tryz.ntmps26
  go_upto_region 13 with fail
  rw [← hW1]; clear hW1
  have hx : Ext W1 W1 := Ext.refl _
  have hn0 : (0 : Int) < (n : Int) := by omega
  have hn1 : (1 : Int) < (n : Int) := by omega
  have hn0' : 0 < n := by omega
  have hn1' : 1 < n := by omega
  generalize R 0 = r0 at *
  generalize R 1 = r1 at *
  go_region_held3 (fun w' => (w'.cell? ⟨bb, oo, none⟩ = some (.bool r0.neg) ∧ w'.cell? ⟨bb, oo + 1, none⟩ = some (.slice r0.A r0.n r0.c) ∧ w'.cell? ⟨bb, oo + 2, none⟩ = some (I r0.den)) ∧ w'.cell? ⟨bb, oo + 3, none⟩ = some (.bool r1.neg) ∧ w'.cell? ⟨bb, oo + 3 + 1, none⟩ = some (.slice r1.A r1.n r1.c) ∧ w'.cell? ⟨bb, oo + 3 + 2, none⟩ = some (I r1.den)) (first | exact HS.out _ (by (with_reducible (repeat (first | exact Ext.refl _ | assumption | (refine Ext.toSet ?_ (by omega)) | refine Ext.toAlloc ?_ | refine Ext.toDrew ?_ | refine Ext.toDrewN ?_ | refine Ext.trans ?_ (by assumption)))); (first | done | fail "no")) | (refine ⟨⟨?_, ?_, ?_⟩, ?_, ?_, ?_⟩ <;> (rw [cell_far3 (by omega)]; assumption)))
    ((go_at_call 55; (with_reducible refine (HF.out _ (hx.trans (by (with_reducible (repeat (first | exact Ext.refl _ | assumption | (refine Ext.toSet ?_ (by omega)) | refine Ext.toAlloc ?_ | refine Ext.toDrew ?_ | refine Ext.toDrewN ?_ | refine Ext.trans ?_ (by assumption)))); (first | done | fail "no")))).mono ?_); rintro e1 w1 ⟨A2, c2, rfl, hon, hx2⟩; have HO := Lib.hid hon; have HX2 := Lib.hid (show Ext W1 w1 from (by (with_reducible (repeat (first | exact Ext.refl _ | assumption | (refine Ext.toSet ?_ (by omega)) | refine Ext.toAlloc ?_ | refine Ext.toDrew ?_ | refine Ext.toDrewN ?_ | refine Ext.trans ?_ (by assumption)))); (first | done | fail "no"))); obtain ⟨⟨p0, p1, p2⟩, p3, p4, p5⟩ := HS.out _ HX2.out; obtain ⟨⟨q0, q1, q2⟩, rf⟩ := HM.out.rs.ext HX2.out; have f0 := rf 0; have f1 := rf 1; have f2 := rf 2; clear rf hon))
  all_goals
    go_wp2_with fail
    exact bodyPost_ret (v := dv d'.neg A2 (len d'.m) c2 d'.den) (by simp [results, Tryz.results26, go_sem, q0, q1, q2]) rfl (DyRes.end3 rfl HO.out (HM.out.ext.trans HX2.out) (by simp; omega) (by omega) (by simp; omega))


set_option maxRecDepth 100000 in
set_option maxHeartbeats 1000000 in
theorem rblk_min {w : World} {b : Blk} {Ab A : Option Addr} {cb n c : Nat} {R : Nat → RN} {V : Nat → DV} (hk : b.k = 8) (l : Ln w A n R V) (hn : 2 ≤ n) (s0 : Shr (V 0)) (s1 : Shr (V 1)) :
    Calls Tryz.prog 26 #[bkv b.k Ab b.n cb b.vn b.ve b.un b.ue, .slice A n c] w (DyRes (minD (V 0) (V 1)) w) := by
  obtain ⟨W1, hW1⟩ : ∃ W1, W1 = rbW w b Ab cb 58 61 := ⟨_, rfl⟩
  have hM : RbM w W1 b Ab cb := by rw [hW1]; exact RbM.new _ _ _ _ _ _
  have hz := hM.sz
  have HM := Lib.hid hM
  obtain ⟨bb, oo, rfl, hbb, hcc⟩ := l.rn (by omega)
  obtain ⟨x00, x01, x02⟩ := hcc 0 (by omega)
  have HC0 : Hid (∀ w', Ext W1 w' → Cn w' (R 0) (V 0)) := fun w' e => (l.el 0 (by omega)).ext (hM.ext.trans e)
  obtain ⟨x10, x11, x12⟩ := hcc 1 (by omega)
  have HC1 : Hid (∀ w', Ext W1 w' → Cn w' (R 1) (V 1)) := fun w' e => (l.el 1 (by omega)).ext (hM.ext.trans e)
  simp only [Nat.zero_mul, Nat.add_zero, Nat.one_mul] at x00 x01 x02 x10 x11 x12
  have HF : Hid (∀ w', Ext W1 w' → Calls Tryz.prog 56 #[(R 0).v, (R 1).v] w' (DyRes (minD (V 0) (V 1)) w')) := fun w' e => rmin_any (HC0.out w' e).dy (HC1.out w' e).dy (Nat.le_trans (len_subD s0.len s1.len s0.den s1.den) (by omega)) (subD_ok _ _)
  have HS : Hid (∀ w', Ext W1 w' → (w'.cell? ⟨bb, oo, none⟩ = some (.bool (R 0).neg) ∧ w'.cell? ⟨bb, oo + 1, none⟩ = some (.slice (R 0).A (R 0).n (R 0).c) ∧ w'.cell? ⟨bb, oo + 2, none⟩ = some (I (R 0).den)) ∧ w'.cell? ⟨bb, oo + 3, none⟩ = some (.bool (R 1).neg) ∧ w'.cell? ⟨bb, oo + 3 + 1, none⟩ = some (.slice (R 1).A (R 1).n (R 1).c) ∧ w'.cell? ⟨bb, oo + 3 + 2, none⟩ = some (I (R 1).den)) := fun w' e =>
    ⟨⟨((hM.ext.trans e).old.1 _ _ hbb).trans x00, ((hM.ext.trans e).old.1 _ _ hbb).trans x01, ((hM.ext.trans e).old.1 _ _ hbb).trans x02⟩, ((hM.ext.trans e).old.1 _ _ hbb).trans x10, ((hM.ext.trans e).old.1 _ _ hbb).trans x11, ((hM.ext.trans e).old.1 _ _ hbb).trans x12⟩
  obtain ⟨d', hd'⟩ : ∃ d', minD (V 0) (V 1) = d' := ⟨_, rfl⟩
  rw [hd'] at HF ⊢
  clear hd' HC0 HC1 s0 s1
  have n1 : ¬ bb = w.heap.size + 1 := by omega
  have k0 := hM.k0
  rw [hk] at k0
  clear hM l hcc x00 x01 x02 x10 x11 x12
  rw [hk]
  unfold rbW at hW1
  rw [hk] at hW1
  clear hk
  go_enter Tryz.func26, Tryz.ntmps26
  go_upto_region 15 with fail
  rw [← hW1]; clear hW1
  have hx : Ext W1 W1 := Ext.refl _
  have hn0 : (0 : Int) < (n : Int) := by omega
  have hn1 : (1 : Int) < (n : Int) := by omega
  have hn0' : 0 < n := by omega
  have hn1' : 1 < n := by omega
  generalize R 0 = r0 at *
  generalize R 1 = r1 at *
  go_region_held3 (fun w' => (w'.cell? ⟨bb, oo, none⟩ = some (.bool r0.neg) ∧ w'.cell? ⟨bb, oo + 1, none⟩ = some (.slice r0.A r0.n r0.c) ∧ w'.cell? ⟨bb, oo + 2, none⟩ = some (I r0.den)) ∧ w'.cell? ⟨bb, oo + 3, none⟩ = some (.bool r1.neg) ∧ w'.cell? ⟨bb, oo + 3 + 1, none⟩ = some (.slice r1.A r1.n r1.c) ∧ w'.cell? ⟨bb, oo + 3 + 2, none⟩ = some (I r1.den)) (first | exact HS.out _ (by (with_reducible (repeat (first | exact Ext.refl _ | assumption | (refine Ext.toSet ?_ (by omega)) | refine Ext.toAlloc ?_ | refine Ext.toDrew ?_ | refine Ext.toDrewN ?_ | refine Ext.trans ?_ (by assumption)))); (first | done | fail "no")) | (refine ⟨⟨?_, ?_, ?_⟩, ?_, ?_, ?_⟩ <;> (rw [cell_far3 (by omega)]; assumption)))
    ((go_at_call 56; (with_reducible refine (HF.out _ (hx.trans (by (with_reducible (repeat (first | exact Ext.refl _ | assumption | (refine Ext.toSet ?_ (by omega)) | refine Ext.toAlloc ?_ | refine Ext.toDrew ?_ | refine Ext.toDrewN ?_ | refine Ext.trans ?_ (by assumption)))); (first | done | fail "no")))).mono ?_); rintro e1 w1 ⟨A2, c2, rfl, hon, hx2⟩; have HO := Lib.hid hon; have HX2 := Lib.hid (show Ext W1 w1 from (by (with_reducible (repeat (first | exact Ext.refl _ | assumption | (refine Ext.toSet ?_ (by omega)) | refine Ext.toAlloc ?_ | refine Ext.toDrew ?_ | refine Ext.toDrewN ?_ | refine Ext.trans ?_ (by assumption)))); (first | done | fail "no"))); obtain ⟨⟨p0, p1, p2⟩, p3, p4, p5⟩ := HS.out _ HX2.out; obtain ⟨⟨q0, q1, q2⟩, rf⟩ := HM.out.rs.ext HX2.out; have f0 := rf 0; have f1 := rf 1; have f2 := rf 2; clear rf hon))
  all_goals
    go_wp2_with fail
    exact bodyPost_ret (v := dv d'.neg A2 (len d'.m) c2 d'.den) (by simp [results, Tryz.results26, go_sem, q0, q1, q2]) rfl (DyRes.end3 rfl HO.out (HM.out.ext.trans HX2.out) (by simp; omega) (by omega) (by simp; omega))


set_option maxRecDepth 100000 in
set_option maxHeartbeats 1000000 in
theorem rblk_max {w : World} {b : Blk} {Ab A : Option Addr} {cb n c : Nat} {R : Nat → RN} {V : Nat → DV} (hk : b.k = 9) (l : Ln w A n R V) (hn : 2 ≤ n) (s0 : Shr (V 0)) (s1 : Shr (V 1)) :
    Calls Tryz.prog 26 #[bkv b.k Ab b.n cb b.vn b.ve b.un b.ue, .slice A n c] w (DyRes (maxD (V 0) (V 1)) w) := by
  obtain ⟨W1, hW1⟩ : ∃ W1, W1 = rbW w b Ab cb 58 61 := ⟨_, rfl⟩
  have hM : RbM w W1 b Ab cb := by rw [hW1]; exact RbM.new _ _ _ _ _ _
  have hz := hM.sz
  have HM := Lib.hid hM
  obtain ⟨bb, oo, rfl, hbb, hcc⟩ := l.rn (by omega)
  obtain ⟨x00, x01, x02⟩ := hcc 0 (by omega)
  have HC0 : Hid (∀ w', Ext W1 w' → Cn w' (R 0) (V 0)) := fun w' e => (l.el 0 (by omega)).ext (hM.ext.trans e)
  obtain ⟨x10, x11, x12⟩ := hcc 1 (by omega)
  have HC1 : Hid (∀ w', Ext W1 w' → Cn w' (R 1) (V 1)) := fun w' e => (l.el 1 (by omega)).ext (hM.ext.trans e)
  simp only [Nat.zero_mul, Nat.add_zero, Nat.one_mul] at x00 x01 x02 x10 x11 x12
  have HF : Hid (∀ w', Ext W1 w' → Calls Tryz.prog 57 #[(R 0).v, (R 1).v] w' (DyRes (maxD (V 0) (V 1)) w')) := fun w' e => rmax_any (HC0.out w' e).dy (HC1.out w' e).dy (Nat.le_trans (len_subD s0.len s1.len s0.den s1.den) (by omega)) (subD_ok _ _)
  have HS : Hid (∀ w', Ext W1 w' → (w'.cell? ⟨bb, oo, none⟩ = some (.bool (R 0).neg) ∧ w'.cell? ⟨bb, oo + 1, none⟩ = some (.slice (R 0).A (R 0).n (R 0).c) ∧ w'.cell? ⟨bb, oo + 2, none⟩ = some (I (R 0).den)) ∧ w'.cell? ⟨bb, oo + 3, none⟩ = some (.bool (R 1).neg) ∧ w'.cell? ⟨bb, oo + 3 + 1, none⟩ = some (.slice (R 1).A (R 1).n (R 1).c) ∧ w'.cell? ⟨bb, oo + 3 + 2, none⟩ = some (I (R 1).den)) := fun w' e =>
    ⟨⟨((hM.ext.trans e).old.1 _ _ hbb).trans x00, ((hM.ext.trans e).old.1 _ _ hbb).trans x01, ((hM.ext.trans e).old.1 _ _ hbb).trans x02⟩, ((hM.ext.trans e).old.1 _ _ hbb).trans x10, ((hM.ext.trans e).old.1 _ _ hbb).trans x11, ((hM.ext.trans e).old.1 _ _ hbb).trans x12⟩
  obtain ⟨d', hd'⟩ : ∃ d', maxD (V 0) (V 1) = d' := ⟨_, rfl⟩
  rw [hd'] at HF ⊢
  clear hd' HC0 HC1 s0 s1
  have n1 : ¬ bb = w.heap.size + 1 := by omega
  have k0 := hM.k0
  rw [hk] at k0
  clear hM l hcc x00 x01 x02 x10 x11 x12
  rw [hk]
  unfold rbW at hW1
  rw [hk] at hW1
  clear hk
  go_enter Tryz.func26, Tryz.ntmps26
  go_upto_region 17 with fail
  rw [← hW1]; clear hW1
  have hx : Ext W1 W1 := Ext.refl _
  have hn0 : (0 : Int) < (n : Int) := by omega
  have hn1 : (1 : Int) < (n : Int) := by omega
  have hn0' : 0 < n := by omega
  have hn1' : 1 < n := by omega
  generalize R 0 = r0 at *
  generalize R 1 = r1 at *
  go_region_held3 (fun w' => (w'.cell? ⟨bb, oo, none⟩ = some (.bool r0.neg) ∧ w'.cell? ⟨bb, oo + 1, none⟩ = some (.slice r0.A r0.n r0.c) ∧ w'.cell? ⟨bb, oo + 2, none⟩ = some (I r0.den)) ∧ w'.cell? ⟨bb, oo + 3, none⟩ = some (.bool r1.neg) ∧ w'.cell? ⟨bb, oo + 3 + 1, none⟩ = some (.slice r1.A r1.n r1.c) ∧ w'.cell? ⟨bb, oo + 3 + 2, none⟩ = some (I r1.den)) (first | exact HS.out _ (by (with_reducible (repeat (first | exact Ext.refl _ | assumption | (refine Ext.toSet ?_ (by omega)) | refine Ext.toAlloc ?_ | refine Ext.toDrew ?_ | refine Ext.toDrewN ?_ | refine Ext.trans ?_ (by assumption)))); (first | done | fail "no")) | (refine ⟨⟨?_, ?_, ?_⟩, ?_, ?_, ?_⟩ <;> (rw [cell_far3 (by omega)]; assumption)))
    ((go_at_call 57; (with_reducible refine (HF.out _ (hx.trans (by (with_reducible (repeat (first | exact Ext.refl _ | assumption | (refine Ext.toSet ?_ (by omega)) | refine Ext.toAlloc ?_ | refine Ext.toDrew ?_ | refine Ext.toDrewN ?_ | refine Ext.trans ?_ (by assumption)))); (first | done | fail "no")))).mono ?_); rintro e1 w1 ⟨A2, c2, rfl, hon, hx2⟩; have HO := Lib.hid hon; have HX2 := Lib.hid (show Ext W1 w1 from (by (with_reducible (repeat (first | exact Ext.refl _ | assumption | (refine Ext.toSet ?_ (by omega)) | refine Ext.toAlloc ?_ | refine Ext.toDrew ?_ | refine Ext.toDrewN ?_ | refine Ext.trans ?_ (by assumption)))); (first | done | fail "no"))); obtain ⟨⟨p0, p1, p2⟩, p3, p4, p5⟩ := HS.out _ HX2.out; obtain ⟨⟨q0, q1, q2⟩, rf⟩ := HM.out.rs.ext HX2.out; have f0 := rf 0; have f1 := rf 1; have f2 := rf 2; clear rf hon))
  all_goals
    go_wp2_with fail
    exact bodyPost_ret (v := dv d'.neg A2 (len d'.m) c2 d'.den) (by simp [results, Tryz.results26, go_sem, q0, q1, q2]) rfl (DyRes.end3 rfl HO.out (HM.out.ext.trans HX2.out) (by simp; omega) (by omega) (by simp; omega))


set_option maxRecDepth 100000 in
set_option maxHeartbeats 1000000 in
theorem rblk_neg {w : World} {b : Blk} {Ab A : Option Addr} {cb n c : Nat} {R : Nat → RN} {V : Nat → DV} (hk : b.k = 5) (l : Ln w A n R V) (hn : 1 ≤ n) :
    Calls Tryz.prog 26 #[bkv b.k Ab b.n cb b.vn b.ve b.un b.ue, .slice A n c] w (DyRes (negD (V 0)) w) := by
  obtain ⟨W1, hW1⟩ : ∃ W1, W1 = rbW w b Ab cb 58 61 := ⟨_, rfl⟩
  have hM : RbM w W1 b Ab cb := by rw [hW1]; exact RbM.new _ _ _ _ _ _
  have hz := hM.sz
  have HM := Lib.hid hM
  obtain ⟨bb, oo, rfl, hbb, hcc⟩ := l.rn (by omega)
  obtain ⟨x00, x01, x02⟩ := hcc 0 (by omega)
  have HC0 : Hid (∀ w', Ext W1 w' → Cn w' (R 0) (V 0)) := fun w' e => (l.el 0 (by omega)).ext (hM.ext.trans e)
  simp only [Nat.zero_mul, Nat.add_zero] at x00 x01 x02
  have HF : Hid (∀ w', Ext W1 w' → Calls Tryz.prog 54 #[(R 0).v] w' (DyRes (negD (V 0)) w')) := fun w' e => rneg_any (HC0.out w' e).dy
  have y0 := (hM.ext.old.1 _ _ hbb).trans x00
  have y1 := (hM.ext.old.1 _ _ hbb).trans x01
  have y2 := (hM.ext.old.1 _ _ hbb).trans x02
  obtain ⟨d', hd'⟩ : ∃ d', negD (V 0) = d' := ⟨_, rfl⟩
  rw [hd'] at HF ⊢
  clear hd' HC0
  have k0 := hM.k0
  rw [hk] at k0
  clear hM l hcc x00 x01 x02
  rw [hk]
  unfold rbW at hW1
  rw [hk] at hW1
  clear hk
  go_enter Tryz.func26, Tryz.ntmps26
  go_upto_region 9 with fail
  rw [← hW1]; clear hW1
  have hx : Ext W1 W1 := Ext.refl _
  have hn0 : (0 : Int) < (n : Int) := by omega
  have hn0' : 0 < n := by omega
  generalize R 0 = r0 at *
  go_wp2_with (go_at_call 54; (with_reducible refine (HF.out _ hx).mono ?_); rintro e1 w1 hr; obtain ⟨A2, c2, rfl, hon, hx2⟩ := hr; have HO := Lib.hid hon; have HX2 := Lib.hid (hx.trans hx2); obtain ⟨⟨r0, r1, r2⟩, rf⟩ := HM.out.rs.ext (hx.trans hx2); have f0 := rf 0; have f1 := rf 1; have f2 := rf 2; have hsz := hx.size; clear rf hon hx2)
  exact bodyPost_ret (v := dv d'.neg A2 (len d'.m) c2 d'.den) (by simp [results, Tryz.results26, go_sem, r0, r1, r2]) rfl (DyRes.end3 rfl HO.out (HM.out.ext.trans HX2.out) (by omega) (by omega) (by omega))


set_option maxRecDepth 100000 in
set_option maxHeartbeats 1000000 in
theorem rblk_abs {w : World} {b : Blk} {Ab A : Option Addr} {cb n c : Nat} {R : Nat → RN} {V : Nat → DV} (hk : b.k = 10) (l : Ln w A n R V) (hn : 1 ≤ n) :
    Calls Tryz.prog 26 #[bkv b.k Ab b.n cb b.vn b.ve b.un b.ue, .slice A n c] w (DyRes (absD (V 0)) w) := by
  obtain ⟨W1, hW1⟩ : ∃ W1, W1 = rbW w b Ab cb 58 61 := ⟨_, rfl⟩
  have hM : RbM w W1 b Ab cb := by rw [hW1]; exact RbM.new _ _ _ _ _ _
  have hz := hM.sz
  have HM := Lib.hid hM
  obtain ⟨bb, oo, rfl, hbb, hcc⟩ := l.rn (by omega)
  obtain ⟨x00, x01, x02⟩ := hcc 0 (by omega)
  have HC0 : Hid (∀ w', Ext W1 w' → Cn w' (R 0) (V 0)) := fun w' e => (l.el 0 (by omega)).ext (hM.ext.trans e)
  simp only [Nat.zero_mul, Nat.add_zero] at x00 x01 x02
  have HF : Hid (∀ w', Ext W1 w' → Calls Tryz.prog 58 #[(R 0).v] w' (DyRes (absD (V 0)) w')) := fun w' e => rabs_any (HC0.out w' e).dy
  have y0 := (hM.ext.old.1 _ _ hbb).trans x00
  have y1 := (hM.ext.old.1 _ _ hbb).trans x01
  have y2 := (hM.ext.old.1 _ _ hbb).trans x02
  obtain ⟨d', hd'⟩ : ∃ d', absD (V 0) = d' := ⟨_, rfl⟩
  rw [hd'] at HF ⊢
  clear hd' HC0
  have k0 := hM.k0
  rw [hk] at k0
  clear hM l hcc x00 x01 x02
  rw [hk]
  unfold rbW at hW1
  rw [hk] at hW1
  clear hk
  go_enter Tryz.func26, Tryz.ntmps26
  go_upto_region 19 with fail
  rw [← hW1]; clear hW1
  have hx : Ext W1 W1 := Ext.refl _
  have hn0 : (0 : Int) < (n : Int) := by omega
  have hn0' : 0 < n := by omega
  generalize R 0 = r0 at *
  go_wp2_with (go_at_call 58; (with_reducible refine (HF.out _ hx).mono ?_); rintro e1 w1 hr; obtain ⟨A2, c2, rfl, hon, hx2⟩ := hr; have HO := Lib.hid hon; have HX2 := Lib.hid (hx.trans hx2); obtain ⟨⟨r0, r1, r2⟩, rf⟩ := HM.out.rs.ext (hx.trans hx2); have f0 := rf 0; have f1 := rf 1; have f2 := rf 2; have hsz := hx.size; clear rf hon hx2)
  exact bodyPost_ret (v := dv d'.neg A2 (len d'.m) c2 d'.den) (by simp [results, Tryz.results26, go_sem, r0, r1, r2]) rfl (DyRes.end3 rfl HO.out (HM.out.ext.trans HX2.out) (by omega) (by omega) (by omega))


set_option maxRecDepth 100000 in
set_option maxHeartbeats 1000000 in
theorem rblk_gain {w : World} {b : Blk} {Ab A : Option Addr} {cb n c : Nat} {R : Nat → RN} {V : Nat → DV} (hk : b.k = 6) (l : Ln w A n R V) (hn : 1 ≤ n) (hV : -2147483648 < b.vn ∧ b.vn < 2147483648 ∧ -62 ≤ b.ve ∧ b.ve ≤ 30) :
    Calls Tryz.prog 26 #[bkv b.k Ab b.n cb b.vn b.ve b.un b.ue, .slice A n c] w (DyRes (mulD (nmS b.vn b.ve) (V 0)) w) := by
  obtain ⟨W1, hW1⟩ : ∃ W1, W1 = rbW w b Ab cb 58 61 := ⟨_, rfl⟩
  have hM : RbM w W1 b Ab cb := by rw [hW1]; exact RbM.new _ _ _ _ _ _
  have hz := hM.sz
  have HM := Lib.hid hM
  obtain ⟨bb, oo, rfl, hbb, hcc⟩ := l.rn (by omega)
  obtain ⟨x00, x01, x02⟩ := hcc 0 (by omega)
  have HC0 : Hid (∀ w', Ext W1 w' → Cn w' (R 0) (V 0)) := fun w' e => (l.el 0 (by omega)).ext (hM.ext.trans e)
  simp only [Nat.zero_mul, Nat.add_zero] at x00 x01 x02
  have HNV : Hid (∀ w', Ext W1 w' → Calls Tryz.prog 42 #[.agg #[I b.vn, I b.ve]] w' (DyRes (nmS b.vn b.ve) w')) := fun w' e => rvalue_any _ _ _ hV.1 hV.2.1 hV.2.2.1 hV.2.2.2
  have HLV : Hid ((nmS b.vn b.ve).ok ∧ len (nmS b.vn b.ve).m ≤ 16777216) := ⟨nmS_ok _ _, (nmS_len hV.1 hV.2.1 hV.2.2.2).2⟩
  have HS : Hid (∀ w', Ext W1 w' → (w'.cell? ⟨bb, oo, none⟩ = some (.bool (R 0).neg) ∧ w'.cell? ⟨bb, oo + 1, none⟩ = some (.slice (R 0).A (R 0).n (R 0).c) ∧ w'.cell? ⟨bb, oo + 2, none⟩ = some (I (R 0).den)) ∧ w'.cell? ⟨w.heap.size, 2, none⟩ = some (I b.vn) ∧ w'.cell? ⟨w.heap.size, 3, none⟩ = some (I b.ve)) := fun w' e =>
    ⟨⟨((hM.ext.trans e).old.1 _ _ hbb).trans x00, ((hM.ext.trans e).old.1 _ _ hbb).trans x01, ((hM.ext.trans e).old.1 _ _ hbb).trans x02⟩, (e.old.1 _ _ (by omega)).trans hM.k2, (e.old.1 _ _ (by omega)).trans hM.k3⟩
  obtain ⟨d', hd'⟩ : ∃ d', mulD (nmS b.vn b.ve) (V 0) = d' := ⟨_, rfl⟩
  rw [hd']
  have HD' := Lib.hid hd'
  clear hd'
  have n1 : ¬ bb = w.heap.size + 1 := by omega
  have k0 := hM.k0
  rw [hk] at k0
  clear hM l hcc x00 x01 x02 hV
  rw [hk]
  unfold rbW at hW1
  rw [hk] at hW1
  clear hk
  go_enter Tryz.func26, Tryz.ntmps26
  go_upto_region 11 with fail
  rw [← hW1]; clear hW1
  have hx : Ext W1 W1 := Ext.refl _
  have hn0 : (0 : Int) < (n : Int) := by omega
  have hn0' : 0 < n := by omega
  generalize R 0 = r0 at *
  generalize V 0 = xv at *
  generalize hlo : nmS b.vn b.ve = lv at *
  clear hlo
  go_region_held3 (fun w' => (w'.cell? ⟨bb, oo, none⟩ = some (.bool r0.neg) ∧ w'.cell? ⟨bb, oo + 1, none⟩ = some (.slice r0.A r0.n r0.c) ∧ w'.cell? ⟨bb, oo + 2, none⟩ = some (I r0.den)) ∧ w'.cell? ⟨w.heap.size, 2, none⟩ = some (I b.vn) ∧ w'.cell? ⟨w.heap.size, 3, none⟩ = some (I b.ve)) (first | exact HS.out _ (by (with_reducible (repeat (first | exact Ext.refl _ | assumption | (refine Ext.toSet ?_ (by omega)) | refine Ext.toAlloc ?_ | refine Ext.toDrew ?_ | refine Ext.toDrewN ?_ | refine Ext.trans ?_ (by assumption)))); (first | done | fail "no")) | (refine ⟨⟨?_, ?_, ?_⟩, ?_, ?_⟩ <;> (rw [cell_far3 (by omega)]; assumption)))
    (first
    | (go_at_call 42; (with_reducible refine (HNV.out _ (by (with_reducible (repeat (first | exact Ext.refl _ | assumption | (refine Ext.toSet ?_ (by omega)) | refine Ext.toAlloc ?_ | refine Ext.toDrew ?_ | refine Ext.toDrewN ?_ | refine Ext.trans ?_ (by assumption)))); (first | done | fail "no"))).mono ?_); rintro e1 w2 hr; obtain ⟨A0, y0, rfl, cn0, _, hx0⟩ := hr.cn HLV.out.1 HLV.out.2; have CN0 := Lib.hid cn0; have HX0 := Lib.hid (show Ext W1 w2 from (by (with_reducible (repeat (first | exact Ext.refl _ | assumption | (refine Ext.toSet ?_ (by omega)) | refine Ext.toAlloc ?_ | refine Ext.toDrew ?_ | refine Ext.toDrewN ?_ | refine Ext.trans ?_ (by assumption)))); (first | done | fail "no"))); clear hr cn0)
    | (go_at_call 55; (with_reducible refine (rmul_any CN0.out.dy (HC0.out _ HX0.out).dy).mono ?_); rw [HD'.out]; rintro e1 w1 ⟨A2, c2, rfl, hon, hx2⟩; have HO := Lib.hid hon; have HX2 := Lib.hid (HX0.out.trans hx2); obtain ⟨⟨p0, p1, p2⟩, p3, p4⟩ := HS.out _ HX2.out; obtain ⟨⟨q0, q1, q2⟩, rf⟩ := HM.out.rs.ext HX2.out; have f0 := rf 0; have f1 := rf 1; have f2 := rf 2; have hsz := HX0.out.size; clear rf hon))
  all_goals
    go_wp2_with fail
    exact bodyPost_ret (v := dv d'.neg A2 (len d'.m) c2 d'.den) (by simp [results, Tryz.results26, go_sem, q0, q1, q2]) rfl (DyRes.end3 rfl HO.out (HM.out.ext.trans HX2.out) (by omega) (by omega) (by omega))


set_option maxRecDepth 100000 in
set_option maxHeartbeats 1000000 in
theorem rblk_clip {w : World} {b : Blk} {Ab A : Option Addr} {cb n c : Nat} {R : Nat → RN} {V : Nat → DV} (hk : b.k = 11) (l : Ln w A n R V) (hn : 1 ≤ n) (hV : -2147483648 < b.vn ∧ b.vn < 2147483648 ∧ -62 ≤ b.ve ∧ b.ve ≤ 30) (hU : -2147483648 < b.un ∧ b.un < 2147483648 ∧ -62 ≤ b.ue ∧ b.ue ≤ 30) (s0 : Shr (V 0)) :
    Calls Tryz.prog 26 #[bkv b.k Ab b.n cb b.vn b.ve b.un b.ue, .slice A n c] w (DyRes (minD (maxD (V 0) (nmS b.vn b.ve)) (nmS b.un b.ue)) w) := by
  obtain ⟨W1, hW1⟩ : ∃ W1, W1 = rbW w b Ab cb 58 61 := ⟨_, rfl⟩
  have hM : RbM w W1 b Ab cb := by rw [hW1]; exact RbM.new _ _ _ _ _ _
  have hz := hM.sz
  have HM := Lib.hid hM
  obtain ⟨bb, oo, rfl, hbb, hcc⟩ := l.rn (by omega)
  obtain ⟨x00, x01, x02⟩ := hcc 0 (by omega)
  have HC0 : Hid (∀ w', Ext W1 w' → Cn w' (R 0) (V 0)) := fun w' e => (l.el 0 (by omega)).ext (hM.ext.trans e)
  simp only [Nat.zero_mul, Nat.add_zero] at x00 x01 x02
  have HNV : Hid (∀ w', Ext W1 w' → Calls Tryz.prog 42 #[.agg #[I b.vn, I b.ve]] w' (DyRes (nmS b.vn b.ve) w')) := fun w' e => rvalue_any _ _ _ hV.1 hV.2.1 hV.2.2.1 hV.2.2.2
  have HLV : Hid ((nmS b.vn b.ve).ok ∧ len (nmS b.vn b.ve).m ≤ 16777216) := ⟨nmS_ok _ _, (nmS_len hV.1 hV.2.1 hV.2.2.2).2⟩
  have HNU : Hid (∀ w', Ext W1 w' → Calls Tryz.prog 42 #[.agg #[I b.un, I b.ue]] w' (DyRes (nmS b.un b.ue) w')) := fun w' e => rvalue_any _ _ _ hU.1 hU.2.1 hU.2.2.1 hU.2.2.2
  have HLU : Hid ((nmS b.un b.ue).ok ∧ len (nmS b.un b.ue).m ≤ 16777216) := ⟨nmS_ok _ _, (nmS_len hU.1 hU.2.1 hU.2.2.2).2⟩
  have sv : Shr (nmS b.vn b.ve) := Shr.nm (by omega) (by omega) hV.2.2.1 hV.2.2.2
  have su : Shr (nmS b.un b.ue) := Shr.nm (by omega) (by omega) hU.2.2.1 hU.2.2.2
  have sm : Shr (maxD (V 0) (nmS b.vn b.ve)) := by unfold maxD; split <;> assumption
  have HMX : Hid (∀ w' A c, Ext W1 w' → Cn w' (cnR (nmS b.vn b.ve) A c) (nmS b.vn b.ve) → Calls Tryz.prog 57 #[(R 0).v, (cnR (nmS b.vn b.ve) A c).v] w' (DyRes (maxD (V 0) (nmS b.vn b.ve)) w')) := fun w' A c e cn =>
    rmax_any (HC0.out w' e).dy cn.dy (Nat.le_trans (len_subD s0.len sv.len s0.den sv.den) (by omega)) (subD_ok _ _)
  have HMN : Hid (∀ w' A c B f, Cn w' (cnR (maxD (V 0) (nmS b.vn b.ve)) A c) (maxD (V 0) (nmS b.vn b.ve)) → Cn w' (cnR (nmS b.un b.ue) B f) (nmS b.un b.ue) → Calls Tryz.prog 56 #[(cnR (maxD (V 0) (nmS b.vn b.ve)) A c).v, (cnR (nmS b.un b.ue) B f).v] w' (DyRes (minD (maxD (V 0) (nmS b.vn b.ve)) (nmS b.un b.ue)) w')) := fun w' A c B f cn cn' =>
    rmin_any cn.dy cn'.dy (Nat.le_trans (len_subD sm.len su.len sm.den su.den) (by omega)) (subD_ok _ _)
  have HLM : Hid ((maxD (V 0) (nmS b.vn b.ve)).ok ∧ len (maxD (V 0) (nmS b.vn b.ve)).m ≤ 16777216) := ⟨sm.ok, by have := sm.len; omega⟩
  have HS : Hid (∀ w', Ext W1 w' → (w'.cell? ⟨bb, oo, none⟩ = some (.bool (R 0).neg) ∧ w'.cell? ⟨bb, oo + 1, none⟩ = some (.slice (R 0).A (R 0).n (R 0).c) ∧ w'.cell? ⟨bb, oo + 2, none⟩ = some (I (R 0).den)) ∧ (w'.cell? ⟨w.heap.size, 2, none⟩ = some (I b.vn) ∧ w'.cell? ⟨w.heap.size, 3, none⟩ = some (I b.ve)) ∧ w'.cell? ⟨w.heap.size, 4, none⟩ = some (I b.un) ∧ w'.cell? ⟨w.heap.size, 5, none⟩ = some (I b.ue)) := fun w' e =>
    ⟨⟨((hM.ext.trans e).old.1 _ _ hbb).trans x00, ((hM.ext.trans e).old.1 _ _ hbb).trans x01, ((hM.ext.trans e).old.1 _ _ hbb).trans x02⟩, ⟨(e.old.1 _ _ (by omega)).trans hM.k2, (e.old.1 _ _ (by omega)).trans hM.k3⟩, (e.old.1 _ _ (by omega)).trans hM.k4, (e.old.1 _ _ (by omega)).trans hM.k5⟩
  obtain ⟨d', hd'⟩ : ∃ d', minD (maxD (V 0) (nmS b.vn b.ve)) (nmS b.un b.ue) = d' := ⟨_, rfl⟩
  rw [hd'] at HMN ⊢
  clear hd'
  have n1 : ¬ bb = w.heap.size + 1 := by omega
  have k0 := hM.k0
  rw [hk] at k0
  clear hM l hcc x00 x01 x02 hV hU s0 sv su sm
  rw [hk]
  unfold rbW at hW1
  rw [hk] at hW1
  clear hk
  go_enter Tryz.func26, Tryz.ntmps26
  go_upto_region 20 with fail
  rw [← hW1]; clear hW1
  have hx : Ext W1 W1 := Ext.refl _
  have hn0 : (0 : Int) < (n : Int) := by omega
  have hn0' : 0 < n := by omega
  generalize R 0 = r0 at *
  generalize hlo : maxD (V 0) (nmS b.vn b.ve) = mv at *
  generalize hlo2 : nmS b.vn b.ve = lv at *
  generalize hup : nmS b.un b.ue = uv at *
  clear hlo hlo2 hup
  generalize b.vn = vn at *
  generalize b.ve = ve at *
  generalize b.un = un at *
  generalize b.ue = ue at *
  go_region_held3 (fun w' => (w'.cell? ⟨bb, oo, none⟩ = some (.bool r0.neg) ∧ w'.cell? ⟨bb, oo + 1, none⟩ = some (.slice r0.A r0.n r0.c) ∧ w'.cell? ⟨bb, oo + 2, none⟩ = some (I r0.den)) ∧ (w'.cell? ⟨w.heap.size, 2, none⟩ = some (I vn) ∧ w'.cell? ⟨w.heap.size, 3, none⟩ = some (I ve)) ∧ w'.cell? ⟨w.heap.size, 4, none⟩ = some (I un) ∧ w'.cell? ⟨w.heap.size, 5, none⟩ = some (I ue)) (first | exact HS.out _ (by (with_reducible (repeat (first | exact Ext.refl _ | assumption | (refine Ext.toSet ?_ (by omega)) | refine Ext.toAlloc ?_ | refine Ext.toDrew ?_ | refine Ext.toDrewN ?_ | refine Ext.trans ?_ (by assumption)))); (first | done | fail "no")) | (refine ⟨⟨?_, ?_, ?_⟩, ⟨?_, ?_⟩, ?_, ?_⟩ <;> (rw [cell_far3 (by omega)]; assumption)) | (refine ⟨⟨?_, ?_, ?_⟩, ?_, ?_, ?_, ?_⟩ <;> (rw [cell_far3 (by omega)]; assumption)))
    (first
    | (go_at_call 42; (with_reducible refine (HNV.out _ (by (with_reducible (repeat (first | exact Ext.refl _ | assumption | (refine Ext.toSet ?_ (by omega)) | refine Ext.toAlloc ?_ | refine Ext.toDrew ?_ | refine Ext.toDrewN ?_ | refine Ext.trans ?_ (by assumption)))); (first | done | fail "no"))).mono ?_); rintro e1 w2 hr; obtain ⟨A0, y0, rfl, cn0, _, hx0⟩ := hr.cn HLV.out.1 HLV.out.2; have CN0 := Lib.hid cn0; have HX0 := Lib.hid (show Ext W1 w2 from (by (with_reducible (repeat (first | exact Ext.refl _ | assumption | (refine Ext.toSet ?_ (by omega)) | refine Ext.toAlloc ?_ | refine Ext.toDrew ?_ | refine Ext.toDrewN ?_ | refine Ext.trans ?_ (by assumption)))); (first | done | fail "no"))); clear hr cn0)
    | (go_at_call 57; (with_reducible refine (HMX.out _ _ _ HX0.out CN0.out).mono ?_); rintro e1 w3 hr; obtain ⟨A3, y3, rfl, cn3, _, hx3⟩ := hr.cn HLM.out.1 HLM.out.2; have CN3 := Lib.hid cn3; have HX3 := Lib.hid (HX0.out.trans hx3); clear hr cn3)
    | (go_at_call 42; (with_reducible refine (HNU.out _ HX3.out).mono ?_); rintro e1 w4 hr; obtain ⟨A4, y4, rfl, cn4, _, hx4⟩ := hr.cn HLU.out.1 HLU.out.2; have CN4 := Lib.hid cn4; have CN34 := Lib.hid (CN3.out.ext hx4); have HX4 := Lib.hid (HX3.out.trans hx4); clear hr cn4)
    | (go_at_call 56; (with_reducible refine (HMN.out _ _ _ _ _ CN34.out CN4.out).mono ?_); rintro e1 w1 ⟨A2, c2, rfl, hon, hx2⟩; have HO := Lib.hid hon; have HX2 := Lib.hid (HX4.out.trans hx2); obtain ⟨⟨p0, p1, p2⟩, ⟨p3, p4⟩, p5, p6⟩ := HS.out _ HX2.out; obtain ⟨⟨q0, q1, q2⟩, rf⟩ := HM.out.rs.ext HX2.out; have f0 := rf 0; have f1 := rf 1; have f2 := rf 2; have hsz := HX4.out.size; clear rf hon))
  all_goals
    go_wp2_with fail
    exact bodyPost_ret (v := dv d'.neg A2 (len d'.m) c2 d'.den) (by simp [results, Tryz.results26, go_sem, q0, q1, q2]) rfl (DyRes.end3 rfl HO.out (HM.out.ext.trans HX2.out) (by omega) (by omega) (by omega))

set_option maxRecDepth 100000 in
/-- The value of a block of an accepted diagram. -/
theorem rblock_val {w : World} {D : Dia} {i : Nat} {Ab A : Option Addr} {cb n c : Nat} {R : Nat → RN} {V : Nat → DV} (ok : OkD D) (hi : i < D.nb) (h0 : (D.B i).k ≠ 0) (h2 : (D.B i).k ≠ 2) (l : Ln w A n R V) (hn : (D.B i).n ≤ n) (hs : ∀ j, j < (D.B i).n → Shr (V j)) :
    Calls Tryz.prog 26 #[bkv (D.B i).k Ab (D.B i).n cb (D.B i).vn (D.B i).ve (D.B i).un (D.B i).ue, .slice A n c] w (DyRes (fv (D.B i) (V 0) (V 1)) w) := by
  have h := ok.k0 i hi
  have har := ok.ar i hi
  have h3 : (D.B i).k = 1 ∨ (D.B i).k = 3 ∨ (D.B i).k = 4 ∨ (D.B i).k = 5 ∨ (D.B i).k = 6 ∨ (D.B i).k = 7 ∨ (D.B i).k = 8 ∨ (D.B i).k = 9 ∨ (D.B i).k = 10 ∨ (D.B i).k = 11 := by omega
  have ar2 : (D.B i).k = 3 ∨ (D.B i).k = 4 ∨ (D.B i).k = 7 ∨ (D.B i).k = 8 ∨ (D.B i).k = 9 → (D.B i).n = 2 := fun q => by
    have : arity (D.B i).k = 2 := by unfold arity; rw [if_neg (by omega), if_pos q]
    omega
  have ar1 : (D.B i).k = 5 ∨ (D.B i).k = 6 ∨ (D.B i).k = 10 ∨ (D.B i).k = 11 → (D.B i).n = 1 := fun q => by
    have : arity (D.B i).k = 1 := by unfold arity; rw [if_neg (by omega), if_neg (by omega)]
    omega
  have hval : (D.B i).k = 1 ∨ (D.B i).k = 6 ∨ (D.B i).k = 11 → -2147483648 < (D.B i).vn ∧ (D.B i).vn < 2147483648 ∧ -62 ≤ (D.B i).ve ∧ (D.B i).ve ≤ 30 := fun q => ok.val hi (by unfold usesV; rcases q with q | q | q <;> rw [q] <;> rfl)
  rcases h3 with hk | hk | hk | hk | hk | hk | hk | hk | hk | hk
  · have e : fv (D.B i) (V 0) (V 1) = nmS (D.B i).vn (D.B i).ve := by unfold fv; rw [hk]; rfl
    rw [e]; exact rblk_const hk (hval (by omega))
  · have e : fv (D.B i) (V 0) (V 1) = addD (V 0) (V 1) := by unfold fv; rw [hk]; rfl
    have := ar2 (by omega)
    rw [e]; exact rblk_add hk l (by omega)
  · have e : fv (D.B i) (V 0) (V 1) = subD (V 0) (V 1) := by unfold fv; rw [hk]; rfl
    have := ar2 (by omega)
    rw [e]; exact rblk_sub hk l (by omega)
  · have e : fv (D.B i) (V 0) (V 1) = negD (V 0) := by unfold fv; rw [hk]; rfl
    have := ar1 (by omega)
    rw [e]; exact rblk_neg hk l (by omega)
  · have e : fv (D.B i) (V 0) (V 1) = mulD (nmS (D.B i).vn (D.B i).ve) (V 0) := by unfold fv; rw [hk]; rfl
    have := ar1 (by omega)
    rw [e]; exact rblk_gain hk l (by omega) (hval (by omega))
  · have e : fv (D.B i) (V 0) (V 1) = mulD (V 0) (V 1) := by unfold fv; rw [hk]; rfl
    have := ar2 (by omega)
    rw [e]; exact rblk_mul hk l (by omega)
  · have e : fv (D.B i) (V 0) (V 1) = minD (V 0) (V 1) := by unfold fv; rw [hk]; rfl
    have := ar2 (by omega)
    rw [e]; exact rblk_min hk l (by omega) (hs 0 (by omega)) (hs 1 (by omega))
  · have e : fv (D.B i) (V 0) (V 1) = maxD (V 0) (V 1) := by unfold fv; rw [hk]; rfl
    have := ar2 (by omega)
    rw [e]; exact rblk_max hk l (by omega) (hs 0 (by omega)) (hs 1 (by omega))
  · have e : fv (D.B i) (V 0) (V 1) = absD (V 0) := by unfold fv; rw [hk]; rfl
    have := ar1 (by omega)
    rw [e]; exact rblk_abs hk l (by omega)
  · have hu := ok.upp hi hk
    have hv := hval (by omega)
    have hg := (ok.scal hi).2.2 hk
    have := ar1 (by omega)
    have hle : (nmS (D.B i).vn (D.B i).ve).q ≤ (nmS (D.B i).un (D.B i).ue).q := by
      have hc := cmp_gtS (n := (D.B i).vn) (e := (D.B i).ve) (m := (D.B i).un) (f := (D.B i).ue) hv.2.2.1 hv.2.2.2 hu.2.2.1 hu.2.2.2
      rw [hg, cmpD_sgn (nmS_ok _ _) (nmS_ok _ _)] at hc
      have hc' : ¬ 0 < sgn ((nmS (D.B i).vn (D.B i).ve).q - (nmS (D.B i).un (D.B i).ue).q) := of_decide_eq_false hc
      unfold sgn at hc'
      by_cases q : (nmS (D.B i).vn (D.B i).ve).q - (nmS (D.B i).un (D.B i).ue).q < 0
      · grind
      · rw [if_neg q] at hc'
        by_cases q2 : 0 < (nmS (D.B i).vn (D.B i).ve).q - (nmS (D.B i).un (D.B i).ue).q
        · rw [if_pos q2] at hc'; exact absurd (by decide) hc'
        · grind
    have e : fv (D.B i) (V 0) (V 1) = minD (maxD (V 0) (nmS (D.B i).vn (D.B i).ve)) (nmS (D.B i).un (D.B i).ue) := by
      have : fv (D.B i) (V 0) (V 1) = maxD (nmS (D.B i).vn (D.B i).ve) (minD (V 0) (nmS (D.B i).un (D.B i).ue)) := by unfold fv; rw [hk]; rfl
      rw [this]; exact clip_eq (hs 0 (by omega)).ok (nmS_ok _ _) (nmS_ok _ _) hle
    rw [e]; exact rblk_clip hk l (by omega) hv hu (hs 0 (by omega))
end Go.Proofs.YtgnaljnmjphleaaGreatDoor

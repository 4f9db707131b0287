/- Numbers as structs: functions of one number. -/
import Derived.Test.YtcdkkohklhmpgaaGreatDoorMdy
import Derived.Deep.DeepCutAuto
import Derived.Deep.DrawnRows
namespace Go.Proofs.YtcdkkohklhmpgaaGreatDoor

/-! ### Dyf -/
section
open Go.RowKit

theorem normal_at (neg : Bool) (A : Option Addr) (m ca : Nat) (den : Int) (w : World) (d : DV) (hd : nrmI neg m den = d) (hT : Tabs w) (ha : Rd w A (len m) (dg m)) (oa : SlOk A (len m) ca) (hL : len m ≤ 33554432) (hk : -1048576 ≤ den) (hk2 : den ≤ 1048576) :
    Calls Tryz.prog 151 #[.bool neg, .slice A (len m) ca, I den] w (DyRes d w) := by subst hd; exact normal_any neg A m ca den w hT ha oa hL hk hk2

/-- The block g begins with these three cells. -/
def St (w : World) (g : Nat) (v0 v1 v2 : Value) : Prop := w.cell? ⟨g, 0, none⟩ = some v0 ∧ w.cell? ⟨g, 1, none⟩ = some v1 ∧ w.cell? ⟨g, 2, none⟩ = some v2
theorem St.lt {w : World} {g : Nat} {v0 v1 v2 : Value} (h : St w g v0 v1 v2) : g < w.heap.size := World.block_lt_of_cell? w _ h.1
theorem St.ext {w w' : World} {g : Nat} {v0 v1 v2 : Value} (h : St w g v0 v1 v2) (e : Ext w w') : St w' g v0 v1 v2 :=
  ⟨(e.old.1 _ _ h.lt).trans h.1, (e.old.1 _ _ h.lt).trans h.2.1, (e.old.1 _ _ h.lt).trans h.2.2⟩
theorem St.new (w : World) (v0 v1 v2 : Value) (t : TypeId) : St (w.alloc (.cells #[v0, v1, v2] t)) w.heap.size v0 v1 v2 := ⟨by go_simp, by go_simp, by go_simp⟩
theorem St.far {w : World} {g g' : Nat} {v0 v1 v2 : Value} (h : St w g v0 v1 v2) (hne : g' ≠ g) (i : Nat) (u : Value) : St (w.setCell ⟨g', i, none⟩ u) g v0 v1 v2 :=
  ⟨(World.cell?_setCell_other _ _ _ _ (by intro e; injection e with e; exact hne e)).trans h.1, (World.cell?_setCell_other _ _ _ _ (by intro e; injection e with e; exact hne e)).trans h.2.1, (World.cell?_setCell_other _ _ _ _ (by intro e; injection e with e; exact hne e)).trans h.2.2⟩
/-- Behind a call: a box and a result that lie in the two newest blocks. -/
theorem two_boxes {w w1 : World} {u0 u1 u2 v0 v1 v2 : Value} {t t' : TypeId} (hx : Ext ((w.alloc (.cells #[u0, u1, u2] t)).alloc (.cells #[v0, v1, v2] t')) w1) :
    St w1 w.heap.size u0 u1 u2 ∧ St w1 (w.heap.size + 1) v0 v1 v2 ∧ w.heap.size + 1 < w1.heap.size ∧ Ext w w1 := by
  have s1 := ((St.new w u0 u1 u2 t).ext (Ext.alloc _ (.cells #[v0, v1, v2] t'))).ext hx
  have s2 := St.new (w.alloc (.cells #[u0, u1, u2] t)) v0 v1 v2 t'
  rw [show (w.alloc (.cells #[u0, u1, u2] t)).heap.size = w.heap.size + 1 by simp] at s2
  exact ⟨s1, s2.ext hx, (s2.ext hx).lt, ((Ext.alloc _ _).trans (Ext.alloc _ _)).trans hx⟩
theorem ext_set3 {w w1 : World} {g : Nat} (h : Ext w w1) (hg : w.heap.size ≤ g) (u0 u1 u2 : Value) : Ext w (((w1.setCell ⟨g, 0, none⟩ u0).setCell ⟨g, 1, none⟩ u1).setCell ⟨g, 2, none⟩ u2) := Ext.set (Ext.set (Ext.set h hg _) hg _) hg _
theorem St.far3 {w : World} {g g' : Nat} {v0 v1 v2 : Value} (h : St w g v0 v1 v2) (hne : g' ≠ g) (u0 u1 u2 : Value) : St (((w.setCell ⟨g', 0, none⟩ u0).setCell ⟨g', 1, none⟩ u1).setCell ⟨g', 2, none⟩ u2) g v0 v1 v2 := ((h.far hne _ _).far hne _ _).far hne _ _
theorem On.set3 {w : World} {b n c g : Nat} {A : Option Addr} {f : Nat → Nat} (h : On w b A n c f) (hg : g < b) (u0 u1 u2 : Value) : On (((w.setCell ⟨g, 0, none⟩ u0).setCell ⟨g, 1, none⟩ u1).setCell ⟨g, 2, none⟩ u2) b A n c f := ((h.set hg _ _).set hg _ _).set hg _ _
theorem size_set3 (w : World) (g : Nat) (u0 u1 u2 : Value) : (((w.setCell ⟨g, 0, none⟩ u0).setCell ⟨g, 1, none⟩ u1).setCell ⟨g, 2, none⟩ u2).heap.size = w.heap.size := by simp
/-- The end of a function that stores a call's number as its result. -/
theorem DyRes.end3 {d : DV} {w W w2 : World} {A : Option Addr} {c g : Nat} {e : Ending} {u0 u1 u2 : Value} (he : e = .returned (dv d.neg A (len d.m) c d.den)) (hon : On w2 W.heap.size A (len d.m) c (dg d.m)) (hx : Ext w w2) (hW : w.heap.size ≤ W.heap.size) (hg : w.heap.size ≤ g) (hg2 : g < W.heap.size) :
    DyRes d w e (((w2.setCell ⟨g, 0, none⟩ u0).setCell ⟨g, 1, none⟩ u1).setCell ⟨g, 2, none⟩ u2) :=
  ⟨A, c, he, (hon.set3 hg2 _ _ _).mono hW, ext_set3 hx hg _ _ _⟩

set_option maxRecDepth 100000 in
set_option maxHeartbeats 1000000 in
theorem neg_any {w : World} {neg : Bool} {A A' : Option Addr} {n c c' : Nat} {den : Int} {d : DV} (h : Dy w neg A n c den d A' c') (hT : Tabs w) : Calls Tryz.prog 110 #[dv neg A n c den] w (DyRes (negD d) w) := by
  have H := Lib.hid h; have HT := Lib.hid hT; clear h hT
  have hd1 := H.out.wf.2.1
  have hl1 := H.out.lim
  obtain ⟨d', hd'⟩ : ∃ d', negD d = d' := ⟨_, rfl⟩
  rw [hd']
  have HD' : Hid (nrmI (!d.neg) d.m d.den = d') := by show _ = _; rw [nrmI_nat, ← hd']; rfl
  clear hd'
  go_enter Tryz.func110, Tryz.ntmps110
  go_wp2_with (go_at_call 106; refine (H.out.num _ ((Ext.alloc _ _).trans (Ext.alloc _ _))).mono ?_; rintro e w1 ⟨rfl, hx⟩; obtain ⟨⟨k0, k1, k2⟩, s1, hz, hx1⟩ := two_boxes hx; have S1 := Lib.hid s1; have HX := Lib.hid hx1; obtain ⟨hc, hf⟩ := hx.old; clear hx hx1 s1)
  have HW := Lib.hid (ext_set3 HX.out (Nat.le_refl _))
  refine (normal_at _ _ _ _ _ _ d' HD'.out (HT.out.ext (HW.out _ _ _)) (H.out.rd.ext (HW.out _ _ _)) H.out.sl (by omega) (by omega) (by omega)).mono ?_
  rintro e w2 ⟨A2, c2, rfl, hon, hx⟩
  obtain ⟨r0, r1, r2⟩ := (S1.out.far3 (by omega) _ _ _).ext hx
  obtain ⟨hc2, hf2⟩ := hx.old
  have HX2 := Lib.hid ((HW.out _ _ _).trans hx)
  have HO := Lib.hid hon
  clear hon hx
  go_wp2_with fail
  exact bodyPost_ret (v := dv d'.neg A2 (len d'.m) c2 d'.den) (by simp [results, Tryz.results110, go_sem, r0, r1, r2]) rfl (DyRes.end3 rfl HO.out HX2.out (by simp; omega) (by omega) (by simp; omega))

set_option maxRecDepth 100000 in
set_option maxHeartbeats 1000000 in
theorem abs_any {w : World} {neg : Bool} {A A' : Option Addr} {n c c' : Nat} {den : Int} {d : DV} (h : Dy w neg A n c den d A' c') (hT : Tabs w) : Calls Tryz.prog 149 #[dv neg A n c den] w (DyRes (absD d) w) := by
  have H := Lib.hid h; have HT := Lib.hid hT; clear h hT
  have hd1 := H.out.wf.2.1
  have hl1 := H.out.lim
  obtain ⟨d', hd'⟩ : ∃ d', absD d = d' := ⟨_, rfl⟩
  rw [hd']
  have HD' : Hid (nrmI false d.m d.den = d') := by show _ = _; rw [nrmI_nat, ← hd']; rfl
  clear hd'
  go_enter Tryz.func149, Tryz.ntmps149
  go_wp2_with (go_at_call 106; refine (H.out.num _ ((Ext.alloc _ _).trans (Ext.alloc _ _))).mono ?_; rintro e w1 ⟨rfl, hx⟩; obtain ⟨⟨k0, k1, k2⟩, s1, hz, hx1⟩ := two_boxes hx; have S1 := Lib.hid s1; have HX := Lib.hid hx1; obtain ⟨hc, hf⟩ := hx.old; clear hx hx1 s1)
  have HW := Lib.hid (ext_set3 HX.out (Nat.le_refl _))
  refine (normal_at _ _ _ _ _ _ d' HD'.out (HT.out.ext (HW.out _ _ _)) (H.out.rd.ext (HW.out _ _ _)) H.out.sl (by omega) (by omega) (by omega)).mono ?_
  rintro e w2 ⟨A2, c2, rfl, hon, hx⟩
  obtain ⟨r0, r1, r2⟩ := (S1.out.far3 (by omega) _ _ _).ext hx
  obtain ⟨hc2, hf2⟩ := hx.old
  have HX2 := Lib.hid ((HW.out _ _ _).trans hx)
  have HO := Lib.hid hon
  clear hon hx
  go_wp2_with fail
  exact bodyPost_ret (v := dv d'.neg A2 (len d'.m) c2 d'.den) (by simp [results, Tryz.results149, go_sem, r0, r1, r2]) rfl (DyRes.end3 rfl HO.out HX2.out (by simp; omega) (by omega) (by simp; omega))

set_option maxRecDepth 100000 in
set_option maxHeartbeats 1000000 in
theorem fresh_any {w : World} {neg : Bool} {A A' : Option Addr} {n c c' : Nat} {den : Int} {d : DV} (h : Dy w neg A n c den d A' c') (hT : Tabs w) : Calls Tryz.prog 154 #[dv neg A n c den] w (DyRes d w) := by
  have H := Lib.hid h; have HT := Lib.hid hT; clear h hT
  have hd1 := H.out.wf.2.1
  have hl1 := H.out.lim
  obtain ⟨d', hd'⟩ : ∃ d', d = d' := ⟨_, rfl⟩
  rw [hd']
  have HD' : Hid (nrmI d.neg d.m d.den = d') := by show _ = _; rw [nrmI_nat, ← hd', mkD_small H.out.wf.2.1, nrm_of_ok H.out.wf]
  clear hd'
  go_enter Tryz.func154, Tryz.ntmps154
  go_wp2_with (go_at_call 106; refine (H.out.num _ ((Ext.alloc _ _).trans (Ext.alloc _ _))).mono ?_; rintro e w1 ⟨rfl, hx⟩; obtain ⟨⟨k0, k1, k2⟩, s1, hz, hx1⟩ := two_boxes hx; have S1 := Lib.hid s1; have HX := Lib.hid hx1; obtain ⟨hc, hf⟩ := hx.old; clear hx hx1 s1)
  have HW := Lib.hid (ext_set3 HX.out (Nat.le_refl _))
  refine (normal_at _ _ _ _ _ _ d' HD'.out (HT.out.ext (HW.out _ _ _)) (H.out.rd.ext (HW.out _ _ _)) H.out.sl (by omega) (by omega) (by omega)).mono ?_
  rintro e w2 ⟨A2, c2, rfl, hon, hx⟩
  obtain ⟨r0, r1, r2⟩ := (S1.out.far3 (by omega) _ _ _).ext hx
  obtain ⟨hc2, hf2⟩ := hx.old
  have HX2 := Lib.hid ((HW.out _ _ _).trans hx)
  have HO := Lib.hid hon
  clear hon hx
  go_wp2_with fail
  exact bodyPost_ret (v := dv d'.neg A2 (len d'.m) c2 d'.den) (by simp [results, Tryz.results154, go_sem, r0, r1, r2]) rfl (DyRes.end3 rfl HO.out HX2.out (by simp; omega) (by omega) (by simp; omega))
end

/-! ### Dyg -/
section
open Go.RowKit
attribute [local go_sem ↓] Go.wp_at_zero Go.wp_at_succ

theorem len_mul (m n : Nat) : len (m * n) ≤ len m + len n := by
  refine len_le ?_
  rw [pB_add]
  rcases Nat.eq_zero_or_pos n with h | h
  · subst h; have := pB_pos (len m); have := pB_pos (len 0); rw [Nat.mul_zero]; exact Nat.mul_pos (pB_pos _) (pB_pos _)
  · exact Nat.lt_of_lt_of_le (Nat.mul_lt_mul_of_pos_right (lt_pB_len m) h) (Nat.mul_le_mul_left _ (Nat.le_of_lt (lt_pB_len n)))

/-- A block of one's own that begins with these three cells. -/
def Bx (w : World) (g : Nat) (v0 v1 v2 : Value) : Prop := St w g v0 v1 v2 ∧ ∀ i, w.frozen? ⟨g, i, none⟩ = false
theorem Bx.lt {w : World} {g : Nat} {v0 v1 v2 : Value} (h : Bx w g v0 v1 v2) : g < w.heap.size := h.1.lt
theorem Bx.ext {w w' : World} {g : Nat} {v0 v1 v2 : Value} (h : Bx w g v0 v1 v2) (e : Ext w w') : Bx w' g v0 v1 v2 := ⟨h.1.ext e, fun i => (e.old.2 _ _ h.lt).trans (h.2 i)⟩
theorem Bx.new (w : World) (v0 v1 v2 : Value) (t : TypeId) : Bx (w.alloc (.cells #[v0, v1, v2] t)) w.heap.size v0 v1 v2 := ⟨St.new w v0 v1 v2 t, fun i => by go_simp⟩
theorem Bx.far3 {w : World} {g g' : Nat} {v0 v1 v2 : Value} (h : Bx w g v0 v1 v2) (hne : g' ≠ g) (u0 u1 u2 : Value) : Bx (((w.setCell ⟨g', 0, none⟩ u0).setCell ⟨g', 1, none⟩ u1).setCell ⟨g', 2, none⟩ u2) g v0 v1 v2 :=
  ⟨h.1.far3 hne _ _ _, fun i => by simp [h.2 i]⟩
theorem Bx.set3 {w : World} {g : Nat} {v0 v1 v2 : Value} (h : Bx w g v0 v1 v2) (u0 u1 u2 : Value) : Bx (((w.setCell ⟨g, 0, none⟩ u0).setCell ⟨g, 1, none⟩ u1).setCell ⟨g, 2, none⟩ u2) g u0 u1 u2 := by
  obtain ⟨⟨h0, h1, h2⟩, hf⟩ := h
  have c0 := World.cell?_setCell_same w _ u0 h0
  have n1 : (w.setCell ⟨g, 0, none⟩ u0).cell? ⟨g, 1, none⟩ = some v1 := (World.cell?_setCell_other _ _ _ _ (by intro e; injection e with _ e; cases e)).trans h1
  have n2 : (w.setCell ⟨g, 0, none⟩ u0).cell? ⟨g, 2, none⟩ = some v2 := (World.cell?_setCell_other _ _ _ _ (by intro e; injection e with _ e; cases e)).trans h2
  have m0 : ((w.setCell ⟨g, 0, none⟩ u0).setCell ⟨g, 1, none⟩ u1).cell? ⟨g, 0, none⟩ = some u0 := (World.cell?_setCell_other _ _ _ _ (by intro e; injection e with _ e; cases e)).trans c0
  have m1 := World.cell?_setCell_same _ _ u1 n1
  have m2 : ((w.setCell ⟨g, 0, none⟩ u0).setCell ⟨g, 1, none⟩ u1).cell? ⟨g, 2, none⟩ = some v2 := (World.cell?_setCell_other _ _ _ _ (by intro e; injection e with _ e; cases e)).trans n2
  refine ⟨⟨?_, ?_, World.cell?_setCell_same _ _ _ m2⟩, fun i => by simp [hf i]⟩
  · exact (World.cell?_setCell_other _ _ _ _ (by intro e; injection e with _ e; cases e)).trans m0
  · exact (World.cell?_setCell_other _ _ _ _ (by intro e; injection e with _ e; cases e)).trans m1
/-- Three boxes: two arguments and a result. -/
theorem three_boxes (w : World) (a0 a1 a2 b0 b1 b2 c0 c1 c2 : Value) (t t' t'' : TypeId) :
    Bx (((w.alloc (.cells #[a0, a1, a2] t)).alloc (.cells #[b0, b1, b2] t')).alloc (.cells #[c0, c1, c2] t'')) w.heap.size a0 a1 a2 ∧
    Bx (((w.alloc (.cells #[a0, a1, a2] t)).alloc (.cells #[b0, b1, b2] t')).alloc (.cells #[c0, c1, c2] t'')) (w.heap.size + 1) b0 b1 b2 ∧
    Bx (((w.alloc (.cells #[a0, a1, a2] t)).alloc (.cells #[b0, b1, b2] t')).alloc (.cells #[c0, c1, c2] t'')) (w.heap.size + 1 + 1) c0 c1 c2 ∧ Ext w (((w.alloc (.cells #[a0, a1, a2] t)).alloc (.cells #[b0, b1, b2] t')).alloc (.cells #[c0, c1, c2] t'')) := by
  have s1 := ((Bx.new w a0 a1 a2 t).ext (Ext.alloc _ (.cells #[b0, b1, b2] t'))).ext (Ext.alloc _ (.cells #[c0, c1, c2] t''))
  have s2 := (Bx.new (w.alloc (.cells #[a0, a1, a2] t)) b0 b1 b2 t').ext (Ext.alloc _ (.cells #[c0, c1, c2] t''))
  have s3 := Bx.new ((w.alloc (.cells #[a0, a1, a2] t)).alloc (.cells #[b0, b1, b2] t')) c0 c1 c2 t''
  rw [show (w.alloc (.cells #[a0, a1, a2] t)).heap.size = w.heap.size + 1 by simp] at s2
  rw [show ((w.alloc (.cells #[a0, a1, a2] t)).alloc (.cells #[b0, b1, b2] t')).heap.size = w.heap.size + 1 + 1 by simp] at s3
  exact ⟨s1, s2, s3, ((Ext.alloc _ _).trans (Ext.alloc _ _)).trans (Ext.alloc _ _)⟩

/-- What the first statement of a function of two numbers leaves. -/
def Two (w : World) (a b : DV) (A B : Option Addr) (ca cb : Nat) (wx : World) : Prop :=
  Ext w wx ∧ Bx wx w.heap.size (.bool a.neg) (.slice A (len a.m) ca) (I a.den) ∧ Bx wx (w.heap.size + 1) (.bool b.neg) (.slice B (len b.m) cb) (I b.den) ∧ Bx wx (w.heap.size + 1 + 1) (.bool false) (.slice none 0 0) (I 0)
theorem two_of {w W0 W : World} {a b : DV} {A B : Option Addr} {ca cb : Nat} {a0 a1 a2 b0 b1 b2 : Value} (h0 : Bx W0 w.heap.size a0 a1 a2) (h1 : Bx W0 (w.heap.size + 1) b0 b1 b2) (h2 : Bx W0 (w.heap.size + 1 + 1) (.bool false) (.slice none 0 0) (I 0)) (hw : Ext w W0) (hx : Ext W0 W) :
    Two w a b A B ca cb ((((((W.setCell ⟨w.heap.size, 0, none⟩ (.bool a.neg)).setCell ⟨w.heap.size, 1, none⟩ (.slice A (len a.m) ca)).setCell ⟨w.heap.size, 2, none⟩ (I a.den)).setCell ⟨w.heap.size + 1, 0, none⟩ (.bool b.neg)).setCell ⟨w.heap.size + 1, 1, none⟩ (.slice B (len b.m) cb)).setCell ⟨w.heap.size + 1, 2, none⟩ (I b.den)) :=
  ⟨ext_set3 (ext_set3 (hw.trans hx) (Nat.le_refl _) _ _ _) (by omega) _ _ _, ((h0.ext hx).set3 _ _ _).far3 (by omega) _ _ _, ((h1.ext hx).far3 (by omega) _ _ _).set3 _ _ _, ((h2.ext hx).far3 (by omega) _ _ _).far3 (by omega) _ _ _⟩
theorem keepB {w0 w' : World} {g h : Nat} {a0 a1 a2 b0 b1 b2 : Value} (ha : Bx w0 g a0 a1 a2) (hb : Bx w0 h b0 b1 b2) (e : Ext w0 w') :
    w'.cell? ⟨g, 0, none⟩ = some a0 ∧ w'.cell? ⟨g, 1, none⟩ = some a1 ∧ w'.cell? ⟨g, 2, none⟩ = some a2 ∧ w'.cell? ⟨h, 0, none⟩ = some b0 ∧ w'.cell? ⟨h, 1, none⟩ = some b1 ∧ w'.cell? ⟨h, 2, none⟩ = some b2 :=
  ⟨(ha.ext e).1.1, (ha.ext e).1.2.1, (ha.ext e).1.2.2, (hb.ext e).1.1, (hb.ext e).1.2.1, (hb.ext e).1.2.2⟩

theorem keepC {w0 w' : World} {g h j : Nat} {a0 a1 a2 b0 b1 b2 u0 u1 u2 : Value} (ha : Bx w0 g a0 a1 a2) (hb : Bx w0 h b0 b1 b2) (hg : j ≠ g) (hh : j ≠ h) (e : Ext w0 w') :
    (((w'.setCell ⟨j, 0, none⟩ u0).setCell ⟨j, 1, none⟩ u1).setCell ⟨j, 2, none⟩ u2).cell? ⟨g, 0, none⟩ = some a0 ∧ (((w'.setCell ⟨j, 0, none⟩ u0).setCell ⟨j, 1, none⟩ u1).setCell ⟨j, 2, none⟩ u2).cell? ⟨g, 1, none⟩ = some a1 ∧
    (((w'.setCell ⟨j, 0, none⟩ u0).setCell ⟨j, 1, none⟩ u1).setCell ⟨j, 2, none⟩ u2).cell? ⟨g, 2, none⟩ = some a2 ∧ (((w'.setCell ⟨j, 0, none⟩ u0).setCell ⟨j, 1, none⟩ u1).setCell ⟨j, 2, none⟩ u2).cell? ⟨h, 0, none⟩ = some b0 ∧
    (((w'.setCell ⟨j, 0, none⟩ u0).setCell ⟨j, 1, none⟩ u1).setCell ⟨j, 2, none⟩ u2).cell? ⟨h, 1, none⟩ = some b1 ∧ (((w'.setCell ⟨j, 0, none⟩ u0).setCell ⟨j, 1, none⟩ u1).setCell ⟨j, 2, none⟩ u2).cell? ⟨h, 2, none⟩ = some b2 :=
  ⟨((ha.ext e).far3 hg _ _ _).1.1, ((ha.ext e).far3 hg _ _ _).1.2.1, ((ha.ext e).far3 hg _ _ _).1.2.2, ((hb.ext e).far3 hh _ _ _).1.1, ((hb.ext e).far3 hh _ _ _).1.2.1, ((hb.ext e).far3 hh _ _ _).1.2.2⟩

set_option maxRecDepth 100000 in
set_option maxHeartbeats 1000000 in
theorem mul_any {w : World} {na nb : Bool} {A A' B B' : Option Addr} {n c c' k e e' : Nat} {da db : Int} {a b : DV} (ha : Dy w na A n c da a A' c') (hb' : Dy w nb B k e db b B' e') (hT : Tabs w) :
    Calls Tryz.prog 203 #[dv na A n c da, dv nb B k e db] w (DyRes (mulD a b) w) := by
  have HA := Lib.hid ha; have HB := Lib.hid hb'; have HT := Lib.hid hT; clear ha hb' hT
  have a1 := HA.out.wf.2.1
  have b1 := HB.out.wf.2.1
  have a2 := HA.out.lim
  have b2 := HB.out.lim
  obtain ⟨d', hd'⟩ : ∃ d', mulD a b = d' := ⟨_, rfl⟩
  rw [hd']
  obtain ⟨sd, hsd⟩ : ∃ sd, a.den + b.den = sd := ⟨_, rfl⟩
  have ew : IntKind.i64.wrap ((a.den : Int) + b.den) = (sd : Int) := by rw [IntWalk.i64_in _ (by omega)]; omega
  have hsd2 : sd ≤ 131072 := by omega
  obtain ⟨P, hP⟩ : ∃ P, a.m * b.m = P := ⟨_, rfl⟩
  have hPl : len P ≤ 33554432 := by have := len_mul a.m b.m; rw [hP] at this; omega
  have HP := Lib.hid hP
  have HD' : Hid (nrmI (a.neg != b.neg) P (sd : Int) = d') := by
    show _ = _
    rw [nrmI_nat, ← hd', ← hsd, ← hP]; rfl
  clear hsd hP
  clear hd'
  go_enter Tryz.func203, Tryz.ntmps203
  go_upto_region 1 with fail
  obtain ⟨X0, X1, X2, XE⟩ := three_boxes w (.bool na) (.slice A n c) (I da) (.bool nb) (.slice B k e) (I db) (.bool false) (.slice none 0 0) (I 0) 24 24 24
  have HX0 := Lib.hid X0; have HX1 := Lib.hid X1; have HX2 := Lib.hid X2; have HXE := Lib.hid XE
  clear X0 X1 X2 XE
  go_cut [] (fun wx => Two w a b A' B' c' e' wx)
  case first =>
    go_region_with ((first | (go_at_call 106; refine (HA.out.num _ (HXE.out.trans (by repeat (first | exact Ext.refl _ | assumption | refine Ext.trans ?_ (Ext.drew _) | refine Ext.trans ?_ (by assumption))))).mono ?_; rintro e wa ⟨rfl, hxa⟩; have ga0 := (HX0.out.ext (w' := wa) (by repeat (first | exact Ext.refl _ | assumption | refine Ext.trans ?_ (Ext.drew _) | refine Ext.trans ?_ (by assumption)))).2; have ga1 := (HX1.out.ext (w' := wa) (by repeat (first | exact Ext.refl _ | assumption | refine Ext.trans ?_ (Ext.drew _) | refine Ext.trans ?_ (by assumption)))).2; obtain ⟨ka0, ka1, ka2, ka3, ka4, ka5⟩ := keepB HX0.out HX1.out (w' := wa) (by repeat (first | exact Ext.refl _ | assumption | refine Ext.trans ?_ (Ext.drew _) | refine Ext.trans ?_ (by assumption)))) | (go_at_call 106; refine (HB.out.num _ (HXE.out.trans (by repeat (first | exact Ext.refl _ | assumption | refine Ext.trans ?_ (Ext.drew _) | refine Ext.trans ?_ (by assumption))))).mono ?_; rintro e wb ⟨rfl, hxb⟩; have gb0 := (HX0.out.ext (w' := wb) (by repeat (first | exact Ext.refl _ | assumption | refine Ext.trans ?_ (Ext.drew _) | refine Ext.trans ?_ (by assumption)))).2; have gb1 := (HX1.out.ext (w' := wb) (by repeat (first | exact Ext.refl _ | assumption | refine Ext.trans ?_ (Ext.drew _) | refine Ext.trans ?_ (by assumption)))).2; obtain ⟨kb0, kb1, kb2, kb3, kb4, kb5⟩ := keepB HX0.out HX1.out (w' := wb) (by repeat (first | exact Ext.refl _ | assumption | refine Ext.trans ?_ (Ext.drew _) | refine Ext.trans ?_ (by assumption))))))
    all_goals
      go_wp2_with fail
      go_meet
      first
        | exact two_of HX0.out HX1.out HX2.out HXE.out (by repeat (first | exact Ext.refl _ | assumption | refine Ext.trans ?_ (Ext.drew _) | refine Ext.trans ?_ (by assumption)))
  case rest =>
    clear HX0 HX1 HX2 HXE
    obtain ⟨hE, X0, X1, X2⟩ := hcut
    have HX0 := Lib.hid X0; have HX1 := Lib.hid X1; have HX2 := Lib.hid X2; have HE := Lib.hid hE
    clear X0 X1 X2 hE
    go_upto_region 2 with fail
    obtain ⟨k0, k1, k2, k3, k4, k5⟩ := keepB HX0.out HX1.out (Ext.refl _)
    have hn2 : ¬ w.heap.size + 1 + 1 = w.heap.size := by omega
    have hn3 : ¬ w.heap.size = w.heap.size + 1 + 1 := by omega
    go_region_held3 (fun w' => w'.cell? ⟨w.heap.size, 0, none⟩ = some (.bool a.neg) ∧ w'.cell? ⟨w.heap.size, 1, none⟩ = some (.slice A' (len a.m) c') ∧ w'.cell? ⟨w.heap.size, 2, none⟩ = some (I a.den) ∧ w'.cell? ⟨w.heap.size + 1, 0, none⟩ = some (.bool b.neg) ∧ w'.cell? ⟨w.heap.size + 1, 1, none⟩ = some (.slice B' (len b.m) e') ∧ w'.cell? ⟨w.heap.size + 1, 2, none⟩ = some (I b.den))
      (go_keep)
      (first
        | (go_at_call 229; refine (product_any A' B' a.m b.m c' e' _ (HA.out.rd.ext (HE.out.trans (Ext.drew _))) (HB.out.rd.ext (HE.out.trans (Ext.drew _))) (by omega) (by omega)).mono ?_; rintro e w1 ⟨P1, p1, rfl, hon, hx⟩; obtain ⟨q0, q1, q2, q3, q4, q5⟩ := keepB HX0.out HX1.out (w' := w1) ((Ext.drew _).trans hx); rw [HP.out] at hon; rw [HP.out])
        | (go_at_call 151; refine (normal_at _ P1 P p1 _ _ d' HD'.out (HT.out.ext ((HE.out.trans (Ext.drew _)).trans hx)) hon.rd hon.ok hPl (by omega) (by omega)).mono ?_; rintro e w2 ⟨A2, c2, rfl, hon2, hx2⟩; obtain ⟨p0, p1, p2, p3, p4, p5⟩ := keepB HX0.out HX1.out (w' := w2) (((Ext.drew _).trans hx).trans hx2); have gz := (HX2.out.ext (w' := w2) (((Ext.drew _).trans hx).trans hx2)).2; obtain ⟨r0, r1, r2⟩ := (HX2.out.ext (w' := w2) (((Ext.drew _).trans hx).trans hx2)).1))
    all_goals
      have HO := Lib.hid hon2
      have HF := Lib.hid (((HE.out.trans (Ext.drew _)).trans hx).trans hx2)
      have hsz := hx.size
      have hsz0 : w.heap.size + 1 + 1 < w1.heap.size := Nat.lt_of_lt_of_le HX2.out.lt hsz
      go_wp2_with fail
      exact bodyPost_ret (v := dv d'.neg A2 (len d'.m) c2 d'.den) (by simp [results, Tryz.results203, go_sem, r0, r1, r2]) rfl (DyRes.end3 rfl HO.out HF.out (by omega) (by omega) hsz0)
end

/-! ### Dyh -/
section
open Go.RowKit

/-- Behind a call: a box that lies in the newest block. -/
theorem one_box {w w1 : World} {u0 u1 u2 : Value} {t : TypeId} (hx : Ext (w.alloc (.cells #[u0, u1, u2] t)) w1) : St w1 w.heap.size u0 u1 u2 ∧ w.heap.size < w1.heap.size ∧ Ext w w1 :=
  ⟨(St.new w u0 u1 u2 t).ext hx, ((St.new w u0 u1 u2 t).ext hx).lt, (Ext.alloc _ _).trans hx⟩

theorem sign_0 {d : DV} (h : d.m = 0) : signD d = 0 := by unfold signD; rw [if_pos h]
theorem sign_n {d : DV} (h : d.m ≠ 0) (hn : d.neg = true) : signD d = -1 := by unfold signD; rw [if_neg h, hn]; rfl
theorem sign_p {d : DV} (h : d.m ≠ 0) (hn : d.neg = false) : signD d = 1 := by unfold signD; rw [if_neg h, hn]; rfl
set_option maxRecDepth 100000 in
set_option maxHeartbeats 1000000 in
theorem sign_any {w : World} {neg : Bool} {A A' : Option Addr} {n c c' : Nat} {den : Int} {d : DV} (h : Dy w neg A n c den d A' c') : Calls Tryz.prog 70 #[dv neg A n c den] w fun e w' => e = .returned (I (signD d)) ∧ Ext w w' := by
  have H := Lib.hid h; clear h
  have HN : Hid (∀ w', Ext w w' → Calls Tryz.prog 106 #[dv neg A n c den] w' (NumRes (dv d.neg A' (len d.m) c' d.den) w')) := H.out.num
  have hl1 := H.out.lim
  by_cases hm : d.m = 0
  · have HR := Lib.hid (sign_0 hm)
    have hl : len d.m = 0 := len_eq_zero.2 hm
    clear hm H
    rw [hl] at HN
    go_enter Tryz.func70, Tryz.ntmps70
    go_wp2_with (go_at_call 106; refine (HN.out _ (Ext.alloc _ _)).mono ?_; rintro e w1 ⟨rfl, hx⟩; obtain ⟨⟨k0, k1, k2⟩, hz, hx1⟩ := one_box hx; have HX := Lib.hid hx1; obtain ⟨hc, hf⟩ := hx.old; clear hx hx1)
    go_ret
    exact ⟨by rw [HR.out]; rfl, ext_set3 HX.out (Nat.le_refl _) _ _ _⟩
  · have hl : ((len d.m : Int) == 0) = false := by
      have : len d.m ≠ 0 := fun e => hm (len_eq_zero.1 e)
      simp; omega
    cases hn : d.neg with
    | true =>
      have HR := Lib.hid (sign_n hm hn)
      rw [hn] at HN
      clear hm hn H
      go_enter Tryz.func70, Tryz.ntmps70
      go_wp2_with (go_at_call 106; refine (HN.out _ (Ext.alloc _ _)).mono ?_; rintro e w1 ⟨rfl, hx⟩; obtain ⟨⟨k0, k1, k2⟩, hz, hx1⟩ := one_box hx; have HX := Lib.hid hx1; obtain ⟨hc, hf⟩ := hx.old; clear hx hx1)
      go_ret
      exact ⟨by rw [HR.out]; rfl, ext_set3 HX.out (Nat.le_refl _) _ _ _⟩
    | false =>
      have HR := Lib.hid (sign_p hm hn)
      rw [hn] at HN
      clear hm hn H
      go_enter Tryz.func70, Tryz.ntmps70
      go_wp2_with (go_at_call 106; refine (HN.out _ (Ext.alloc _ _)).mono ?_; rintro e w1 ⟨rfl, hx⟩; obtain ⟨⟨k0, k1, k2⟩, hz, hx1⟩ := one_box hx; have HX := Lib.hid hx1; obtain ⟨hc, hf⟩ := hx.old; clear hx hx1)
      go_ret
      exact ⟨by rw [HR.out]; rfl, ext_set3 HX.out (Nat.le_refl _) _ _ _⟩

theorem shift_nrmI {d : DV} (h : d.ok) (k : Int) (h1 : -65536 ≤ k) (h2 : k ≤ 65536) : nrmI d.neg d.m (d.den - k) = if k < 0 then mkD d.neg d.m (d.den + (-k).toNat) else mkD d.neg (d.m * 2 ^ k.toNat) d.den := by
  by_cases hk : k < 0
  · rw [if_pos hk]
    rw [show (d.den : Int) - k = ((d.den + (-k).toNat : Nat) : Int) by omega, nrmI_nat]
  · rw [if_neg hk]
    obtain ⟨j, rfl⟩ : ∃ j : Nat, k = (j : Int) := ⟨k.toNat, by omega⟩
    have hd := h.2.1
    simp only [Int.toNat_natCast]
    rcases Nat.lt_or_ge d.den j with hj | hj
    · rw [show (d.den : Int) - (j : Int) = -((j - d.den : Nat) : Int) by omega, nrmI_neg (by omega)]
      refine DV.uniq (mkD_ok _ _ _) (mkD_ok _ _ _) ?_
      rw [q_mkD _ _ (by decide), q_mkD _ _ hd, ← qOf_shift d.neg (d.m * 2 ^ (j - d.den)) 0 d.den, Nat.mul_assoc, ← Nat.pow_add, Nat.zero_add, show j - d.den + d.den = j by omega]
    · rw [show (d.den : Int) - (j : Int) = ((d.den - j : Nat) : Int) by omega, nrmI_nat]
      refine DV.uniq (mkD_ok _ _ _) (mkD_ok _ _ _) ?_
      rw [q_mkD _ _ (by omega), q_mkD _ _ hd, ← qOf_shift d.neg d.m (d.den - j) j, show d.den - j + j = d.den by omega]
theorem shiftD_nrmI {d : DV} (h : d.ok) (n : Int) : shiftD d n = nrmI d.neg d.m (d.den - clampN n) := by
  have : -65536 ≤ clampN n ∧ clampN n ≤ 65536 := by unfold clampN; omega
  rw [shift_nrmI h _ this.1 this.2]; rfl

set_option maxRecDepth 100000 in
set_option maxHeartbeats 1000000 in
theorem shift_any {w : World} {neg : Bool} {A A' : Option Addr} {n c c' : Nat} {den : Int} {d : DV} (s : Int) (h : Dy w neg A n c den d A' c') (hT : Tabs w) (hs1 : -9223372036854775808 ≤ s) (hs2 : s ≤ 9223372036854775807) : Calls Tryz.prog 212 #[dv neg A n c den, I s] w (DyRes (shiftD d s) w) := by
  have H := Lib.hid h; have HT := Lib.hid hT; clear h hT
  have hd1 := H.out.wf.2.1
  have hl1 := H.out.lim
  obtain ⟨d', hd'⟩ : ∃ d', shiftD d s = d' := ⟨_, rfl⟩
  obtain ⟨k, hk⟩ : ∃ k, clampN s = k := ⟨_, rfl⟩
  have hk1 : -65536 ≤ k ∧ k ≤ 65536 := by rw [← hk]; unfold clampN; omega
  obtain ⟨hk1, hk2⟩ := hk1
  rw [hd']
  have HD' : Hid (nrmI d.neg d.m ((d.den : Int) - k) = d') := by show _ = _; rw [← hd', shiftD_nrmI H.out.wf, hk]
  have HK : Hid (clampN s = k) := hk
  clear hd' hk
  have h3 : s < -65536 ∨ 65536 < s ∨ (-65536 ≤ s ∧ s ≤ 65536) := by omega
  rcases h3 with h3 | h3 | ⟨h3, h4⟩
  all_goals
    go_enter Tryz.func212, Tryz.ntmps212
    go_wp2_with (go_at_call 106; refine (H.out.num _ ((Ext.alloc _ _).trans (Ext.alloc _ _))).mono ?_; rintro e w1 ⟨rfl, hx⟩; obtain ⟨⟨k0, k1, k2⟩, s1, hz, hx1⟩ := two_boxes hx; have S1 := Lib.hid s1; have HX := Lib.hid hx1; obtain ⟨hc, hf⟩ := hx.old; clear hx hx1 s1)
    have HW := Lib.hid (ext_set3 HX.out (Nat.le_refl _))
    refine (normal_at _ _ _ _ _ _ d' (by rw [← HD'.out]; congr 1; have := HK.out; unfold clampN at this; omega) (HT.out.ext (HW.out _ _ _)) (H.out.rd.ext (HW.out _ _ _)) H.out.sl (by omega) (by omega) (by omega)).mono ?_
    rintro e w2 ⟨A2, c2, rfl, hon, hx⟩
    obtain ⟨r0, r1, r2⟩ := (S1.out.far3 (by omega) _ _ _).ext hx
    obtain ⟨hc2, hf2⟩ := hx.old
    have HX2 := Lib.hid ((HW.out _ _ _).trans hx)
    have HO := Lib.hid hon
    clear hon hx
    go_wp2_with fail
    exact bodyPost_ret (v := dv d'.neg A2 (len d'.m) c2 d'.den) (by simp [results, Tryz.results212, go_sem, r0, r1, r2]) rfl (DyRes.end3 rfl HO.out HX2.out (by simp; omega) (by omega) (by simp; omega))

theorem ofI_nrmI (n : Int) (k : Nat) : nrmI (decide (n < 0)) n.natAbs (k : Int) = ofI n k := by rw [nrmI_nat]; rfl
theorem len_abs {n : Int} (h1 : -9223372036854775808 ≤ n) (h2 : n ≤ 9223372036854775807) : len n.natAbs ≤ 2 := len_le (by show _ < 4294967296 ^ 2; omega)

set_option maxRecDepth 100000 in
set_option maxHeartbeats 1000000 in
theorem of_any (n : Int) (w : World) (hT : Tabs w) (h1 : -9223372036854775808 ≤ n) (h2 : n ≤ 9223372036854775807) : Calls Tryz.prog 65 #[I n] w (DyRes (ofI n 0) w) := by
  have HT := Lib.hid hT; clear hT
  have HD' := Lib.hid (ofI_nrmI n 0)
  have hl := len_abs h1 h2
  generalize ofI n 0 = d' at *
  go_enter Tryz.func65, Tryz.ntmps65
  go_wp2_with (go_at_call 152; refine (ofInt_any n _ h1 h2).mono ?_; rintro e w1 ⟨A1, c1, rfl, hon, hx⟩; have s1 := (St.new w (.bool false) (.slice none 0 0) (I 0) 24).ext hx; have HX := Lib.hid ((Ext.alloc _ _).trans hx); obtain ⟨hc, hf⟩ := hx.old; have HON := Lib.hid hon; have S1 := Lib.hid s1; clear hon hx s1)
  refine (normal_at _ _ _ _ _ _ d' HD'.out (HT.out.ext HX.out) HON.out.rd HON.out.ok (by omega) (by omega) (by omega)).mono ?_
  rintro e w2 ⟨A2, c2, rfl, hon2, hx2⟩
  obtain ⟨r0, r1, r2⟩ := S1.out.ext hx2
  have hz := S1.out.lt
  obtain ⟨hc2, hf2⟩ := hx2.old
  have HX2 := Lib.hid (HX.out.trans hx2)
  have HO := Lib.hid hon2
  clear hon2 hx2
  go_wp2_with fail
  exact bodyPost_ret (v := dv d'.neg A2 (len d'.m) c2 d'.den) (by simp [results, Tryz.results65, go_sem, r0, r1, r2]) rfl (DyRes.end3 rfl HO.out HX2.out (Nat.le_of_lt hz) (Nat.le_refl _) hz)

/-- What a function returns that may fail: a number and no error. -/
def DyOk (d : DV) (w : World) (e : Ending) (w' : World) : Prop := ∃ A c, e = .returned (.tuple #[dv d.neg A (len d.m) c d.den, .nilIface]) ∧ On w' w.heap.size A (len d.m) c (dg d.m) ∧ Ext w w'
theorem DyOk.end3 {d : DV} {w W w2 : World} {A : Option Addr} {c g : Nat} {e : Ending} {u0 u1 u2 : Value} (he : e = .returned (.tuple #[dv d.neg A (len d.m) c d.den, .nilIface])) (hon : On w2 W.heap.size A (len d.m) c (dg d.m)) (hx : Ext w w2) (hW : w.heap.size ≤ W.heap.size) (hg : w.heap.size ≤ g) (hg2 : g < W.heap.size) :
    DyOk d w e (((w2.setCell ⟨g, 0, none⟩ u0).setCell ⟨g, 1, none⟩ u1).setCell ⟨g, 2, none⟩ u2) :=
  ⟨A, c, he, (hon.set3 hg2 _ _ _).mono hW, ext_set3 hx hg _ _ _⟩
def DyErr (k : Int) (w : World) (e : Ending) (w' : World) : Prop := e = .returned (.tuple #[dv false none 0 0 0, .iface 61 (I k)]) ∧ Ext w w'

end

/-! ### Dyi -/
section
open Go.RowKit

theorem len_one : len 1 = 1 := by rw [len_pos (by decide), show 1 / 4294967296 = 0 by decide, len_zero]
theorem ofInt_one (w : World) : Calls Tryz.prog 152 #[I 1] w (NatRes 1 w) := ofInt_any 1 w (by omega) (by omega)
theorem Dy.self {w : World} {neg : Bool} {A A' : Option Addr} {n c c' : Nat} {den : Int} {d : DV} (h : Dy w neg A n c den d A' c') : Dy w d.neg A' (len d.m) c' d.den d A' c' := Dy.valid h.rd h.sl h.wf h.lim
theorem DyOk.of {d : DV} {w W w2 : World} {A : Option Addr} {c : Nat} {e : Ending} (he : e = .returned (.tuple #[dv d.neg A (len d.m) c d.den, .nilIface])) (hon : On w2 W.heap.size A (len d.m) c (dg d.m)) (hx : Ext w w2) (hW : w.heap.size ≤ W.heap.size) : DyOk d w e w2 := ⟨A, c, he, hon.mono hW, hx⟩
theorem len_succ (m : Nat) : len (m + 1) ≤ len m + 1 := by
  refine len_le ?_
  have := lt_pB_len m
  have := pB_pos (len m)
  rw [pB_succ]; omega
/-- Behind a call: a box and a result, both one's own. -/
theorem two_bx {w w1 : World} {u0 u1 u2 v0 v1 v2 : Value} {t t' : TypeId} (hx : Ext ((w.alloc (.cells #[u0, u1, u2] t)).alloc (.cells #[v0, v1, v2] t')) w1) :
    Bx w1 w.heap.size u0 u1 u2 ∧ Bx w1 (w.heap.size + 1) v0 v1 v2 ∧ Ext w w1 := by
  have s1 := ((Bx.new w u0 u1 u2 t).ext (Ext.alloc _ (.cells #[v0, v1, v2] t'))).ext hx
  have s2 := Bx.new (w.alloc (.cells #[u0, u1, u2] t)) v0 v1 v2 t'
  rw [show (w.alloc (.cells #[u0, u1, u2] t)).heap.size = w.heap.size + 1 by simp] at s2
  exact ⟨s1, s2.ext hx, ((Ext.alloc _ _).trans (Ext.alloc _ _)).trans hx⟩
/-- What 'a = number(a)' leaves. -/
def One (w : World) (a : DV) (A : Option Addr) (ca : Nat) (wx : World) : Prop :=
  Ext w wx ∧ Bx wx w.heap.size (.bool a.neg) (.slice A (len a.m) ca) (I a.den) ∧ Bx wx (w.heap.size + 1) (.bool false) (.slice none 0 0) (I 0)
theorem one_of {w w1 : World} {a : DV} {A : Option Addr} {ca : Nat} {u0 u1 u2 : Value} {t t' : TypeId} (hx : Ext ((w.alloc (.cells #[u0, u1, u2] t)).alloc (.cells #[.bool false, .slice none 0 0, I 0] t')) w1) :
    One w a A ca (((w1.setCell ⟨w.heap.size, 0, none⟩ (.bool a.neg)).setCell ⟨w.heap.size, 1, none⟩ (.slice A (len a.m) ca)).setCell ⟨w.heap.size, 2, none⟩ (I a.den)) := by
  obtain ⟨h1, h2, h3⟩ := two_bx hx
  exact ⟨ext_set3 h3 (Nat.le_refl _) _ _ _, h1.set3 _ _ _, h2.far3 (by omega) _ _ _⟩
theorem keepO {w w0 w' : World} {a : DV} {A : Option Addr} {ca : Nat} (h : One w a A ca w0) (e : Ext w0 w') : One w a A ca w' := ⟨h.1.trans e, h.2.1.ext e, h.2.2.ext e⟩
theorem floor_small {d : DV} {k : Nat} (h : d.den ≤ k) : floorD d k = d := by unfold floorD; rw [if_pos h]
theorem floor_big {d : DV} {k : Nat} (h : k < d.den) : floorD d k = mkD d.neg (d.m / 2 ^ (d.den - k) + if d.neg then 1 else 0) k := by unfold floorD; rw [if_neg (by omega)]

set_option maxRecDepth 100000 in
set_option maxHeartbeats 1000000 in
theorem floor_any {w : World} {neg : Bool} {A A' : Option Addr} {n c c' : Nat} {den : Int} {d : DV} (k : Nat) (h : Dy w neg A n c den d A' c') (hT : Tabs w) (hk : k ≤ 65536) : Calls Tryz.prog 76 #[dv neg A n c den, I k] w (DyOk (floorD d k) w) := by
  have H := Lib.hid h; have HT := Lib.hid hT; clear h hT
  have hd1 := H.out.wf.2.1
  have hl1 := H.out.lim
  by_cases hdk : d.den ≤ k
  · rw [floor_small hdk]
    go_enter Tryz.func76, Tryz.ntmps76
    go_wp2_with (first
      | (go_at_call 157; refine (isGrid_t _ _ (by omega) (by omega)).mono ?_; rintro e w' ⟨rfl, rfl⟩)
      | (go_at_call 106; refine (H.out.num _ ((Ext.alloc _ _).trans (Ext.alloc _ _))).mono ?_; rintro e w1 ⟨rfl, hx⟩; obtain ⟨⟨k0, k1, k2⟩, s1, hz, hx1⟩ := two_boxes hx; have S1 := Lib.hid s1; have HX := Lib.hid hx1; obtain ⟨hc, hf⟩ := hx.old; clear hx hx1 s1))
    have HW := Lib.hid (ext_set3 HX.out (Nat.le_refl _))
    refine (fresh_any (H.out.self.ext (HW.out _ _ _)) (HT.out.ext (HW.out _ _ _))).mono ?_
    rintro e w2 ⟨A2, c2, rfl, hon, hx⟩
    obtain ⟨r0, r1, r2⟩ := (S1.out.far3 (by omega) _ _ _).ext hx
    obtain ⟨hc2, hf2⟩ := hx.old
    have HX2 := Lib.hid ((HW.out _ _ _).trans hx)
    have HO := Lib.hid hon
    clear hon hx
    go_wp2_with fail
    exact bodyPost_ret (v := .tuple #[dv d.neg A2 (len d.m) c2 d.den, .nilIface]) (by simp [results, Tryz.results76, go_sem, r0, r1, r2]) rfl (DyOk.end3 rfl HO.out HX2.out (by simp; omega) (by omega) (by simp; omega))
  · have hdk' : k < d.den := by omega
    obtain ⟨j, hj⟩ : ∃ j, d.den - k = j := ⟨_, rfl⟩
    have ej : (d.den : Int) - (k : Int) = (j : Int) := by omega
    have hjl : j ≤ 65536 := by omega
    rw [floor_big hdk', hj]
    clear hj
    have hl2 : len (d.m / 2 ^ j) ≤ 16777216 := Nat.le_trans (len_mono (Nat.div_le_self _ _)) hl1
    have hl3 := len_succ (d.m / 2 ^ j)
    obtain ⟨x, hx⟩ : ∃ x, d.m / 2 ^ j = x := ⟨_, rfl⟩
    rw [hx] at hl2 hl3
    rw [hx]
    have HX := Lib.hid hx
    clear hx
    cases hn : d.neg with
    | false =>
      have HD' : Hid (nrmI false x (k : Int) = mkD false (x + if false = true then 1 else 0) k) := by
        show _ = _
        rw [nrmI_nat]; rfl
      generalize mkD false (x + if false = true then 1 else 0) k = d' at *
      clear hl3
      go_enter Tryz.func76, Tryz.ntmps76
      go_upto_region 3 with (go_at_call 157; refine (isGrid_t _ _ (by omega) (by omega)).mono ?_; rintro e w' ⟨rfl, rfl⟩)
      go_cut [] (fun wx => One w d A' c' wx)
      case first =>
        go_wp2_with (go_at_call 106; refine (H.out.num _ ((Ext.alloc _ _).trans (Ext.alloc _ _))).mono ?_; rintro e w1 ⟨rfl, hx⟩; obtain ⟨hc, hf⟩ := hx.old; have HO := Lib.hid (one_of (a := d) (A := A') (ca := c') hx); clear hx)
        go_meet
        have := HO.out
        rw [hn] at this
        exact this
      case rest =>
        have HO := Lib.hid hcut
        obtain ⟨hE, ⟨⟨k0, k1, k2⟩, g0⟩, ⟨⟨r0, r1, r2⟩, g1⟩⟩ := hcut
        rw [hn] at k0
        have HE := Lib.hid hE
        clear hE
        go_wp2_with (first
          | (go_at_call 158; refine (shiftRight_any A' d.m j c' _ (H.out.rd.ext HE.out) H.out.sl (by omega) (by omega)).mono ?_; rintro e w2 ⟨A2, c2, rfl, hon, hx⟩; rw [HX.out] at hon; rw [HX.out]; obtain ⟨hE2, ⟨⟨k0, k1, k2⟩, g0⟩, ⟨⟨r0, r1, r2⟩, g1⟩⟩ := keepO HO.out hx; rw [hn] at k0; have HE2 := Lib.hid hE2; have HON := Lib.hid hon; have HX2 := Lib.hid hx; clear hE2 hon hx)
          | (go_at_call 151; refine (normal_at _ A2 x c2 _ _ d' HD'.out (HT.out.ext HE2.out) HON.out.rd HON.out.ok (by omega) (by omega) (by omega)).mono ?_; rintro e w3 ⟨A3, c3, rfl, hon, hx⟩; have HO3 := Lib.hid (keepO HO.out (HX2.out.trans hx)); obtain ⟨hE3, ⟨⟨k0, k1, k2⟩, g0⟩, ⟨⟨r0, r1, r2⟩, g1⟩⟩ := keepO HO.out (HX2.out.trans hx); have HE3 := Lib.hid hE3; have HON3 := Lib.hid hon; clear hE3 hon; have hsz := HX2.out.size; clear hx))
        have hlt := (keepO HO.out HX2.out).2.2.lt
        exact bodyPost_ret (v := .tuple #[dv d'.neg A3 (len d'.m) c3 d'.den, .nilIface]) (by simp [results, Tryz.results76, go_sem, r0, r1, r2]) rfl (DyOk.end3 rfl HON3.out HE3.out (by omega) (by omega) hlt)
    | true =>
      have HD' : Hid (nrmI true (x + 1) (k : Int) = mkD true (x + if true = true then 1 else 0) k) := by
        show _ = _
        rw [nrmI_nat]; rfl
      generalize mkD true (x + if true = true then 1 else 0) k = d' at *
      go_enter Tryz.func76, Tryz.ntmps76
      go_upto_region 3 with (go_at_call 157; refine (isGrid_t _ _ (by omega) (by omega)).mono ?_; rintro e w' ⟨rfl, rfl⟩)
      go_cut [] (fun wx => One w d A' c' wx)
      case first =>
        go_wp2_with (go_at_call 106; refine (H.out.num _ ((Ext.alloc _ _).trans (Ext.alloc _ _))).mono ?_; rintro e w1 ⟨rfl, hx⟩; obtain ⟨hc, hf⟩ := hx.old; have HO := Lib.hid (one_of (a := d) (A := A') (ca := c') hx); clear hx)
        go_meet
        have := HO.out
        rw [hn] at this
        exact this
      case rest =>
        have HO := Lib.hid hcut
        obtain ⟨hE, ⟨⟨k0, k1, k2⟩, g0⟩, ⟨⟨r0, r1, r2⟩, g1⟩⟩ := hcut
        rw [hn] at k0
        have HE := Lib.hid hE
        clear hE
        go_wp2_with (first
          | (go_at_call 158; refine (shiftRight_any A' d.m j c' _ (H.out.rd.ext HE.out) H.out.sl (by omega) (by omega)).mono ?_; rintro e w2 ⟨A2, c2, rfl, hon, hx⟩; rw [HX.out] at hon; rw [HX.out]; obtain ⟨hE2, ⟨⟨k0, k1, k2⟩, g0⟩, ⟨⟨r0, r1, r2⟩, g1⟩⟩ := keepO HO.out hx; rw [hn] at k0; have HE2 := Lib.hid hE2; have HON := Lib.hid hon; have HX2 := Lib.hid hx; clear hE2 hon hx)
          | (go_at_call 152; refine (ofInt_one _).mono ?_; rintro e w3 ⟨A3, c3, rfl, hon, hx⟩; obtain ⟨hE3, ⟨⟨k0, k1, k2⟩, g0⟩, ⟨⟨r0, r1, r2⟩, g1⟩⟩ := keepO HO.out (HX2.out.trans hx); rw [hn] at k0; have HE3 := Lib.hid hE3; have HON3 := Lib.hid hon; have HX3 := Lib.hid (HX2.out.trans hx); have HX23 := Lib.hid hx; clear hE3 hon hx)
          | (go_at_call 155; refine (sum_any A2 A3 x 1 c2 c3 _ (HON.out.rd.ext HX23.out) HON3.out.rd HON.out.ok HON3.out.ok (by omega) (by have := len_one; omega)).mono ?_; rintro e w4 ⟨A4, c4, rfl, hon, hx⟩; obtain ⟨hE4, ⟨⟨k0, k1, k2⟩, g0⟩, ⟨⟨r0, r1, r2⟩, g1⟩⟩ := keepO HO.out (HX3.out.trans hx); rw [hn] at k0; have HE4 := Lib.hid hE4; have HON4 := Lib.hid hon; have HX4 := Lib.hid (HX3.out.trans hx); clear hE4 hon hx)
          | (go_at_call 151; refine (normal_at _ A4 (x + 1) c4 _ _ d' HD'.out (HT.out.ext HE4.out) HON4.out.rd HON4.out.ok (by omega) (by omega) (by omega)).mono ?_; rintro e w5 ⟨A5, c5, rfl, hon, hx⟩; obtain ⟨hE5, ⟨⟨k0, k1, k2⟩, g0⟩, ⟨⟨r0, r1, r2⟩, g1⟩⟩ := keepO HO.out (HX4.out.trans hx); have HE5 := Lib.hid hE5; have HON5 := Lib.hid hon; clear hE5 hon hx))
        have hlt := (keepO HO.out HX4.out).2.2.lt
        exact bodyPost_ret (v := .tuple #[dv d'.neg A5 (len d'.m) c5 d'.den, .nilIface]) (by simp [results, Tryz.results76, go_sem, r0, r1, r2]) rfl (DyOk.end3 rfl HON5.out HE5.out (by omega) (by omega) hlt)
end

/-! ### Dyj -/
section
open Go.RowKit
attribute [local go_sem ↓] Go.wp_at_zero Go.wp_at_succ

def AlRes (x y D : Nat) (w : World) (e : Ending) (w' : World) : Prop :=
  ∃ A1 c1 A2 c2, e = .returned (.tuple #[.slice A1 (len x) c1, .slice A2 (len y) c2, I D]) ∧ On w' w.heap.size A1 (len x) c1 (dg x) ∧ On w' w.heap.size A2 (len y) c2 (dg y) ∧ Ext w w'
theorem len_shl (m n : Nat) : len (m * 2 ^ n) ≤ len m + (n / 32 + 1) := by
  have h := len_mul m (2 ^ n)
  have : len (2 ^ n) ≤ n / 32 + 1 := by
    refine len_le ?_
    rw [pB_two]
    exact Nat.pow_lt_pow_right (by decide) (by omega)
  omega
set_option maxRecDepth 100000 in
set_option maxHeartbeats 1000000 in
theorem aligned_any {w : World} {a b : DV} {A B : Option Addr} {ca cb : Nat} (hA : Rd w A (len a.m) (dg a.m)) (hB : Rd w B (len b.m) (dg b.m)) (da : a.den ≤ 65536) (db : b.den ≤ 65536) (la : len a.m ≤ 16777216) (lb : len b.m ≤ 16777216) :
    Calls Tryz.prog 108 #[dv a.neg A (len a.m) ca a.den, dv b.neg B (len b.m) cb b.den] w (AlRes (al a (max a.den b.den)) (al b (max a.den b.den)) (max a.den b.den) w) := by
  have HA := Lib.hid hA; have HB := Lib.hid hB; clear hA hB
  obtain ⟨D, hD⟩ : ∃ D, max a.den b.den = D := ⟨_, rfl⟩
  have d1 : a.den ≤ D := by omega
  have d2 : b.den ≤ D := by omega
  have d3 : D ≤ 65536 := by omega
  have d4 : a.den < b.den → D = b.den := by omega
  have d5 : ¬ a.den < b.den → D = a.den := by omega
  rw [hD]
  have hD' := hD
  clear hD
  obtain ⟨sa, hsa⟩ : ∃ sa, D - a.den = sa := ⟨_, rfl⟩
  obtain ⟨sb, hsb⟩ : ∃ sb, D - b.den = sb := ⟨_, rfl⟩
  have ea : IntKind.i64.wrap ((D : Int) - (a.den : Int)) = (sa : Int) := by rw [IntWalk.i64_in _ (by omega)]; omega
  have eb : IntKind.i64.wrap ((D : Int) - (b.den : Int)) = (sb : Int) := by rw [IntWalk.i64_in _ (by omega)]; omega
  have hsa2 : sa ≤ 65536 := by omega
  have hsb2 : sb ≤ 65536 := by omega
  unfold al
  rw [hsa, hsb]
  have em : (if a.den < b.den then (b.den : Int) else (a.den : Int)) = (D : Int) := by split <;> omega
  obtain ⟨X0, X1, XE⟩ : Bx ((w.alloc (.cells #[.bool a.neg, .slice A (len a.m) ca, I a.den] 24)).alloc (.cells #[.bool b.neg, .slice B (len b.m) cb, I b.den] 24)) w.heap.size (.bool a.neg) (.slice A (len a.m) ca) (I a.den) ∧
      Bx ((w.alloc (.cells #[.bool a.neg, .slice A (len a.m) ca, I a.den] 24)).alloc (.cells #[.bool b.neg, .slice B (len b.m) cb, I b.den] 24)) (w.heap.size + 1) (.bool b.neg) (.slice B (len b.m) cb) (I b.den) ∧
      Ext w ((w.alloc (.cells #[.bool a.neg, .slice A (len a.m) ca, I a.den] 24)).alloc (.cells #[.bool b.neg, .slice B (len b.m) cb, I b.den] 24)) := two_bx (Ext.refl _)
  have HX0 := Lib.hid X0; have HX1 := Lib.hid X1; have HXE := Lib.hid XE
  clear X0 X1 XE hsa hsb d4 d5 hD'
  go_enter Tryz.func108, Tryz.ntmps108
  go_upto_region 2 with fail
  obtain ⟨k0, k1, k2, k3, k4, k5⟩ := keepB HX0.out HX1.out (Ext.refl _)
  go_region_held3 (fun w' => w'.cell? ⟨w.heap.size, 0, none⟩ = some (.bool a.neg) ∧ w'.cell? ⟨w.heap.size, 1, none⟩ = some (.slice A (len a.m) ca) ∧ w'.cell? ⟨w.heap.size, 2, none⟩ = some (I a.den) ∧ w'.cell? ⟨w.heap.size + 1, 0, none⟩ = some (.bool b.neg) ∧ w'.cell? ⟨w.heap.size + 1, 1, none⟩ = some (.slice B (len b.m) cb) ∧ w'.cell? ⟨w.heap.size + 1, 2, none⟩ = some (I b.den))
    (first
      | go_keep
      | (exact keepB HX0.out HX1.out (by repeat (first | exact Ext.refl _ | assumption | refine Ext.trans ?_ (Ext.drew _) | refine Ext.trans ?_ (by assumption)))))
    (first
      | (go_at_call_of 180 (Value.slice A (len a.m) ca); (with_reducible refine (shiftLeft_any A a.m sa ca _ (HA.out.ext (HXE.out.trans (by repeat (first | exact Ext.refl _ | assumption | refine Ext.trans ?_ (Ext.drew _) | refine Ext.trans ?_ (by assumption))))) (by omega) (by omega)).mono ?_); rintro e wa ⟨A1, c1, rfl, hon1, hx1⟩; obtain ⟨q0, q1, q2, q3, q4, q5⟩ := keepB HX0.out HX1.out (w' := wa) (by repeat (first | exact Ext.refl _ | assumption | refine Ext.trans ?_ (Ext.drew _) | refine Ext.trans ?_ (by assumption))))
      | (go_at_call_of 180 (Value.slice B (len b.m) cb); (with_reducible refine (shiftLeft_any B b.m sb cb _ (HB.out.ext (HXE.out.trans (by repeat (first | exact Ext.refl _ | assumption | refine Ext.trans ?_ (Ext.drew _) | refine Ext.trans ?_ (by assumption))))) (by omega) (by omega)).mono ?_); rintro e wb ⟨A2, c2, rfl, hon2, hx2⟩; obtain ⟨p0, p1, p2, p3, p4, p5⟩ := keepB HX0.out HX1.out (w' := wb) (by repeat (first | exact Ext.refl _ | assumption | refine Ext.trans ?_ (Ext.drew _) | refine Ext.trans ?_ (by assumption)))))
  all_goals
    have hs0 := HXE.out.size
    have hs1 := hx1.size
    have hs2 := hx2.size
    clear q0 q1 q2 q3 q4 q5 p0 p1 p2 p3 p4 p5 k0 k1 k2 k3 k4 k5
    go_wp2_with fail
    go_ret3
    first
      | exact ⟨A1, c1, A2, c2, rfl, (hon1.ext hx2).mono hs0, hon2.mono (Nat.le_trans hs0 hs1), (HXE.out.trans (Ext.drew _)).trans (hx1.trans hx2)⟩
      | exact ⟨A1, c1, A2, c2, rfl, hon1.mono (Nat.le_trans hs0 hs2), (hon2.ext hx1).mono hs0, (HXE.out.trans (Ext.drew _)).trans (hx2.trans hx1)⟩

theorem cmp_ne {x y : Int} (h : x ≠ y) : cmpI x y = if x < y then -1 else 1 := by
  unfold cmpI; split
  · rfl
  · rw [if_pos (by omega)]
end

end Go.Proofs.YtcdkkohklhmpgaaGreatDoor

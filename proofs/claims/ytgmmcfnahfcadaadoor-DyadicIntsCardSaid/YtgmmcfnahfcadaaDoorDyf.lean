/- Numbers as structs: functions of one number. -/
import Derived.Test.YtgmmcfnahfcadaaDoorDye
namespace Go.Proofs.YtgmmcfnahfcadaaDoor
open Go.RowKit

theorem normal_at (neg : Bool) (A : Option Addr) (m ca : Nat) (den : Int) (w : World) (d : DV) (hd : nrmI neg m den = d) (hT : Tabs w) (ha : Rd w A (len m) (dg m)) (oa : SlOk A (len m) ca) (hL : len m ≤ 33554432) (hk : -1048576 ≤ den) (hk2 : den ≤ 1048576) :
    Calls Tryd.prog 71 #[.bool neg, .slice A (len m) ca, I den] w (DyRes d w) := by subst hd; exact normal_any neg A m ca den w hT ha oa hL hk hk2

/-- The block g begins with these three cells. -/
def St (w : World) (g : Nat) (v0 v1 v2 : Value) : Prop := w.cell? ⟨g, 0, none⟩ = some v0 ∧ w.cell? ⟨g, 1, none⟩ = some v1 ∧ w.cell? ⟨g, 2, none⟩ = some v2
theorem St.lt {w : World} {g : Nat} {v0 v1 v2 : Value} (h : St w g v0 v1 v2) : g < w.heap.size := World.block_lt_of_cell? w _ h.1
theorem St.ext {w w' : World} {g : Nat} {v0 v1 v2 : Value} (h : St w g v0 v1 v2) (e : Ext w w') : St w' g v0 v1 v2 :=
  ⟨(e.old.1 _ _ h.lt).trans h.1, (e.old.1 _ _ h.lt).trans h.2.1, (e.old.1 _ _ h.lt).trans h.2.2⟩
theorem St.new (w : World) (v0 v1 v2 : Value) (t : TypeId) : St (w.alloc (.cells #[v0, v1, v2] t)) w.heap.size v0 v1 v2 := ⟨by go_simp, by go_simp, by go_simp⟩
theorem St.far {w : World} {g g' : Nat} {v0 v1 v2 : Value} (h : St w g v0 v1 v2) (hne : g' ≠ g) (i : Nat) (u : Value) : St (w.setCell ⟨g', i, none⟩ u) g v0 v1 v2 :=
  ⟨(World.cell?_setCell_other _ _ _ _ (by intro e; injection e with e; exact hne e)).trans h.1, (World.cell?_setCell_other _ _ _ _ (by intro e; injection e with e; exact hne e)).trans h.2.1, (World.cell?_setCell_other _ _ _ _ (by intro e; injection e with e; exact hne e)).trans h.2.2⟩
/-- Behind a call: a box and a result that lie in the two newest blocks. -/
theorem two_boxes {w w1 : World} {u0 u1 u2 v0 v1 v2 : Value} {t t' : TypeId} (hx : Ext ((w.alloc (.cells #[u0, u1, u2] t)).alloc (.cells #[v0, v1, v2] t')) w1) :
    St w1 w.heap.size u0 u1 u2 ∧ St w1 (w.heap.size + 1) v0 v1 v2 ∧ w.heap.size + 1 < w1.heap.size ∧ Ext w w1 := by
  have s1 := ((St.new w u0 u1 u2 t).ext (Ext.alloc _ (.cells #[v0, v1, v2] t'))).ext hx
  have s2 := St.new (w.alloc (.cells #[u0, u1, u2] t)) v0 v1 v2 t'
  rw [show (w.alloc (.cells #[u0, u1, u2] t)).heap.size = w.heap.size + 1 by simp] at s2
  exact ⟨s1, s2.ext hx, (s2.ext hx).lt, ((Ext.alloc _ _).trans (Ext.alloc _ _)).trans hx⟩
theorem ext_set3 {w w1 : World} {g : Nat} (h : Ext w w1) (hg : w.heap.size ≤ g) (u0 u1 u2 : Value) : Ext w (((w1.setCell ⟨g, 0, none⟩ u0).setCell ⟨g, 1, none⟩ u1).setCell ⟨g, 2, none⟩ u2) := Ext.set (Ext.set (Ext.set h hg _) hg _) hg _
theorem St.far3 {w : World} {g g' : Nat} {v0 v1 v2 : Value} (h : St w g v0 v1 v2) (hne : g' ≠ g) (u0 u1 u2 : Value) : St (((w.setCell ⟨g', 0, none⟩ u0).setCell ⟨g', 1, none⟩ u1).setCell ⟨g', 2, none⟩ u2) g v0 v1 v2 := ((h.far hne _ _).far hne _ _).far hne _ _
theorem On.set3 {w : World} {b n c g : Nat} {A : Option Addr} {f : Nat → Nat} (h : On w b A n c f) (hg : g < b) (u0 u1 u2 : Value) : On (((w.setCell ⟨g, 0, none⟩ u0).setCell ⟨g, 1, none⟩ u1).setCell ⟨g, 2, none⟩ u2) b A n c f := ((h.set hg _ _).set hg _ _).set hg _ _
theorem size_set3 (w : World) (g : Nat) (u0 u1 u2 : Value) : (((w.setCell ⟨g, 0, none⟩ u0).setCell ⟨g, 1, none⟩ u1).setCell ⟨g, 2, none⟩ u2).heap.size = w.heap.size := by simp
/-- The end of a function that stores a call's number as its result. -/
theorem DyRes.end3 {d : DV} {w W w2 : World} {A : Option Addr} {c g : Nat} {e : Ending} {u0 u1 u2 : Value} (he : e = .returned (dv d.neg A (len d.m) c d.den)) (hon : On w2 W.heap.size A (len d.m) c (dg d.m)) (hx : Ext w w2) (hW : w.heap.size ≤ W.heap.size) (hg : w.heap.size ≤ g) (hg2 : g < W.heap.size) :
    DyRes d w e (((w2.setCell ⟨g, 0, none⟩ u0).setCell ⟨g, 1, none⟩ u1).setCell ⟨g, 2, none⟩ u2) :=
  ⟨A, c, he, (hon.set3 hg2 _ _ _).mono hW, ext_set3 hx hg _ _ _⟩

set_option maxRecDepth 100000 in
set_option maxHeartbeats 1000000 in
theorem neg_any {w : World} {neg : Bool} {A A' : Option Addr} {n c c' : Nat} {den : Int} {d : DV} (h : Dy w neg A n c den d A' c') (hT : Tabs w) : Calls Tryd.prog 22 #[dv neg A n c den] w (DyRes (negD d) w) := by
  have H := Lib.hid h; have HT := Lib.hid hT; clear h hT
  have hd1 := H.out.wf.2.1
  have hl1 := H.out.lim
  obtain ⟨d', hd'⟩ : ∃ d', negD d = d' := ⟨_, rfl⟩
  rw [hd']
  have HD' : Hid (nrmI (!d.neg) d.m d.den = d') := by show _ = _; rw [nrmI_nat, ← hd']; rfl
  clear hd'
  go_enter Tryd.func22, Tryd.ntmps22
  go_wp2_with (go_at_call 66; refine (H.out.num _ ((Ext.alloc _ _).trans (Ext.alloc _ _))).mono ?_; rintro e w1 ⟨rfl, hx⟩; obtain ⟨⟨k0, k1, k2⟩, s1, hz, hx1⟩ := two_boxes hx; have S1 := Lib.hid s1; have HX := Lib.hid hx1; obtain ⟨hc, hf⟩ := hx.old; clear hx hx1 s1)
  have HW := Lib.hid (ext_set3 HX.out (Nat.le_refl _))
  refine (normal_at _ _ _ _ _ _ d' HD'.out (HT.out.ext (HW.out _ _ _)) (H.out.rd.ext (HW.out _ _ _)) H.out.sl (by omega) (by omega) (by omega)).mono ?_
  rintro e w2 ⟨A2, c2, rfl, hon, hx⟩
  obtain ⟨r0, r1, r2⟩ := (S1.out.far3 (by omega) _ _ _).ext hx
  obtain ⟨hc2, hf2⟩ := hx.old
  have HX2 := Lib.hid ((HW.out _ _ _).trans hx)
  have HO := Lib.hid hon
  clear hon hx
  go_wp2_with fail
  exact bodyPost_ret (v := dv d'.neg A2 (len d'.m) c2 d'.den) (by simp [results, Tryd.results22, go_sem, r0, r1, r2]) rfl (DyRes.end3 rfl HO.out HX2.out (by simp; omega) (by omega) (by simp; omega))

set_option maxRecDepth 100000 in
set_option maxHeartbeats 1000000 in
theorem abs_any {w : World} {neg : Bool} {A A' : Option Addr} {n c c' : Nat} {den : Int} {d : DV} (h : Dy w neg A n c den d A' c') (hT : Tabs w) : Calls Tryd.prog 23 #[dv neg A n c den] w (DyRes (absD d) w) := by
  have H := Lib.hid h; have HT := Lib.hid hT; clear h hT
  have hd1 := H.out.wf.2.1
  have hl1 := H.out.lim
  obtain ⟨d', hd'⟩ : ∃ d', absD d = d' := ⟨_, rfl⟩
  rw [hd']
  have HD' : Hid (nrmI false d.m d.den = d') := by show _ = _; rw [nrmI_nat, ← hd']; rfl
  clear hd'
  go_enter Tryd.func23, Tryd.ntmps23
  go_wp2_with (go_at_call 66; refine (H.out.num _ ((Ext.alloc _ _).trans (Ext.alloc _ _))).mono ?_; rintro e w1 ⟨rfl, hx⟩; obtain ⟨⟨k0, k1, k2⟩, s1, hz, hx1⟩ := two_boxes hx; have S1 := Lib.hid s1; have HX := Lib.hid hx1; obtain ⟨hc, hf⟩ := hx.old; clear hx hx1 s1)
  have HW := Lib.hid (ext_set3 HX.out (Nat.le_refl _))
  refine (normal_at _ _ _ _ _ _ d' HD'.out (HT.out.ext (HW.out _ _ _)) (H.out.rd.ext (HW.out _ _ _)) H.out.sl (by omega) (by omega) (by omega)).mono ?_
  rintro e w2 ⟨A2, c2, rfl, hon, hx⟩
  obtain ⟨r0, r1, r2⟩ := (S1.out.far3 (by omega) _ _ _).ext hx
  obtain ⟨hc2, hf2⟩ := hx.old
  have HX2 := Lib.hid ((HW.out _ _ _).trans hx)
  have HO := Lib.hid hon
  clear hon hx
  go_wp2_with fail
  exact bodyPost_ret (v := dv d'.neg A2 (len d'.m) c2 d'.den) (by simp [results, Tryd.results23, go_sem, r0, r1, r2]) rfl (DyRes.end3 rfl HO.out HX2.out (by simp; omega) (by omega) (by simp; omega))

set_option maxRecDepth 100000 in
set_option maxHeartbeats 1000000 in
theorem fresh_any {w : World} {neg : Bool} {A A' : Option Addr} {n c c' : Nat} {den : Int} {d : DV} (h : Dy w neg A n c den d A' c') (hT : Tabs w) : Calls Tryd.prog 67 #[dv neg A n c den] w (DyRes d w) := by
  have H := Lib.hid h; have HT := Lib.hid hT; clear h hT
  have hd1 := H.out.wf.2.1
  have hl1 := H.out.lim
  obtain ⟨d', hd'⟩ : ∃ d', d = d' := ⟨_, rfl⟩
  rw [hd']
  have HD' : Hid (nrmI d.neg d.m d.den = d') := by show _ = _; rw [nrmI_nat, ← hd', mkD_small H.out.wf.2.1, nrm_of_ok H.out.wf]
  clear hd'
  go_enter Tryd.func67, Tryd.ntmps67
  go_wp2_with (go_at_call 66; refine (H.out.num _ ((Ext.alloc _ _).trans (Ext.alloc _ _))).mono ?_; rintro e w1 ⟨rfl, hx⟩; obtain ⟨⟨k0, k1, k2⟩, s1, hz, hx1⟩ := two_boxes hx; have S1 := Lib.hid s1; have HX := Lib.hid hx1; obtain ⟨hc, hf⟩ := hx.old; clear hx hx1 s1)
  have HW := Lib.hid (ext_set3 HX.out (Nat.le_refl _))
  refine (normal_at _ _ _ _ _ _ d' HD'.out (HT.out.ext (HW.out _ _ _)) (H.out.rd.ext (HW.out _ _ _)) H.out.sl (by omega) (by omega) (by omega)).mono ?_
  rintro e w2 ⟨A2, c2, rfl, hon, hx⟩
  obtain ⟨r0, r1, r2⟩ := (S1.out.far3 (by omega) _ _ _).ext hx
  obtain ⟨hc2, hf2⟩ := hx.old
  have HX2 := Lib.hid ((HW.out _ _ _).trans hx)
  have HO := Lib.hid hon
  clear hon hx
  go_wp2_with fail
  exact bodyPost_ret (v := dv d'.neg A2 (len d'.m) c2 d'.den) (by simp [results, Tryd.results67, go_sem, r0, r1, r2]) rfl (DyRes.end3 rfl HO.out HX2.out (by simp; omega) (by omega) (by simp; omega))

end Go.Proofs.YtgmmcfnahfcadaaDoor

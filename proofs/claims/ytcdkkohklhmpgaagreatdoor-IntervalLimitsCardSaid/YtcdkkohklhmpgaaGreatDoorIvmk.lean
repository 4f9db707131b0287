/- Intervals: the walks of the functions (written by gi.py). -/
import Derived.Test.YtcdkkohklhmpgaaGreatDoorIvcd
import Derived.Deep.RegionHeld3
import Derived.Deep.DeepCutAuto
namespace Go.Proofs.YtcdkkohklhmpgaaGreatDoor
open Go.RowKit
attribute [local go_sem ↓] Go.wp_at_zero Go.wp_at_succ

def IvOk (a b : DV) (w : World) (e : Ending) (w' : World) : Prop := ∃ A c B k, e = .returned (.tuple #[ivd a A c b B k, .nilIface]) ∧ Fr w' w.heap.size A (len a.m) c (dg a.m) ∧ Fr w' w.heap.size B (len b.m) k (dg b.m) ∧ Ext w w'
def IvErr (k : Int) (w : World) (e : Ending) (w' : World) : Prop := e = .returned (.tuple #[iv false none 0 0 0 false none 0 0 0, .iface 61 (I k)]) ∧ Ext w w'
theorem IvOk.end6 {a b : DV} {w w2 : World} {A B : Option Addr} {c k g b1 b2 : Nat} {e : Ending} {u0 u1 u2 u3 u4 u5 : Value} (he : e = .returned (.tuple #[ivd a A c b B k, .nilIface])) (ha : Fr w2 b1 A (len a.m) c (dg a.m)) (hb : Fr w2 b2 B (len b.m) k (dg b.m)) (hx : Ext w w2) (hg : w.heap.size ≤ g) (h1 : g < b1) (h2 : g < b2) :
    IvOk a b w e ((((((w2.setCell ⟨g, 0, none⟩ u0).setCell ⟨g, 1, none⟩ u1).setCell ⟨g, 2, none⟩ u2).setCell ⟨g, 3, none⟩ u3).setCell ⟨g, 4, none⟩ u4).setCell ⟨g, 5, none⟩ u5) :=
  ⟨A, c, B, k, he, (ha.set6 h1 _ _ _ _ _ _).mono (by omega), (hb.set6 h2 _ _ _ _ _ _).mono (by omega), ext_set6 hx hg _ _ _ _ _ _⟩
theorem boxesM (w : World) (n1 n2 : Bool) (A B : Option Addr) (k c m e : Nat) (d1 d2 : Int) :
    let W := ((w.alloc (.cells #[.bool n1, .slice A k c, I d1] 24)).alloc (.cells #[.bool n2, .slice B m e, I d2] 24)).alloc (.cells #[.bool false, .slice none 0 0, I 0, .bool false, .slice none 0 0, I 0] 26)
    Bx W w.heap.size (.bool n1) (.slice A k c) (I d1) ∧ Bx W (w.heap.size + 1) (.bool n2) (.slice B m e) (I d2) ∧ BZ W (w.heap.size + 1 + 1) ∧ Ext w W := by
  have s1 := ((Bx.new w (.bool n1) (.slice A k c) (I d1) 24).ext (Ext.alloc _ (.cells #[.bool n2, .slice B m e, I d2] 24))).ext (Ext.alloc _ (.cells #[.bool false, .slice none 0 0, I 0, .bool false, .slice none 0 0, I 0] 26))
  have s2 := (Bx.new (w.alloc (.cells #[.bool n1, .slice A k c, I d1] 24)) (.bool n2) (.slice B m e) (I d2) 24).ext (Ext.alloc _ (.cells #[.bool false, .slice none 0 0, I 0, .bool false, .slice none 0 0, I 0] 26))
  have s3 := B6.new ((w.alloc (.cells #[.bool n1, .slice A k c, I d1] 24)).alloc (.cells #[.bool n2, .slice B m e, I d2] 24)) (.bool false) (.slice none 0 0) (I 0) (.bool false) (.slice none 0 0) (I 0) 26
  rw [show (w.alloc (.cells #[.bool n1, .slice A k c, I d1] 24)).heap.size = w.heap.size + 1 by simp] at s2
  rw [show ((w.alloc (.cells #[.bool n1, .slice A k c, I d1] 24)).alloc (.cells #[.bool n2, .slice B m e, I d2] 24)).heap.size = w.heap.size + 1 + 1 by simp] at s3
  exact ⟨s1, s2, s3, ((Ext.alloc _ _).trans (Ext.alloc _ _)).trans (Ext.alloc _ _)⟩

set_option maxRecDepth 100000 in
set_option maxHeartbeats 1000000 in
theorem imake_err {w : World} {n1 n2 : Bool} {A A' B B' : Option Addr} {k c c' m e e' : Nat} {d1 d2 : Int} {x y : DV} (ha : Dy w n1 A k c d1 x A' c') (hb : Dy w n2 B m e d2 y B' e') (hc : 0 < cmpD x y) :
    Calls Tryz.prog 67 #[dv n1 A k c d1, dv n2 B m e d2] w (IvErr 3 w) := by
  obtain ⟨z, hz⟩ : ∃ z, cmpD x y = z := ⟨_, rfl⟩
  rw [hz] at hc
  have EZ := Lib.hid hz; clear hz
  have HA := Lib.hid ha; have HB := Lib.hid hb; clear ha hb
  obtain ⟨X0, X1, XZ, XE⟩ := boxesM w n1 n2 A B k c m e d1 d2
  have HX0 := Lib.hid X0; have HX1 := Lib.hid X1; have HXZ := Lib.hid XZ; have HXE := Lib.hid XE
  clear X0 X1 XZ XE
  obtain ⟨⟨k0, k1, k2⟩, kz⟩ := HX0.out; obtain ⟨⟨l0, l1, l2⟩, lz⟩ := HX1.out
  go_enter Tryz.func67, Tryz.ntmps67
  go_wp2_with (go_at_call 31; (with_reducible refine (cmp_any (HA.out.ext HXE.out) (HB.out.ext HXE.out)).mono ?_); rw [EZ.out]; rintro e1 w1 ⟨rfl, hx⟩; have HY := Lib.hid (HXE.out.trans hx); have Z1 := Lib.hid (HXZ.out.ext hx); clear k0 k1 k2 kz l0 l1 l2 lz; obtain ⟨⟨k0, k1, k2⟩, kz⟩ := HX0.out.ext hx; obtain ⟨⟨l0, l1, l2⟩, lz⟩ := HX1.out.ext hx; obtain ⟨⟨r0, r1, r2, r3, r4, r5⟩, rz⟩ := HXZ.out.ext hx; clear hx)
  exact bodyPost_ret (v := .tuple #[iv false none 0 0 0 false none 0 0 0, .iface 61 (I 3)]) (by simp [results, Tryz.results67, go_sem, r0, r1, r2, r3, r4, r5]) rfl ⟨rfl, ext_set6 HY.out (by omega) _ _ _ _ _ _⟩

set_option maxRecDepth 100000 in
set_option maxHeartbeats 1000000 in
theorem imake_ok {w : World} {n1 n2 : Bool} {A A' B B' : Option Addr} {k c c' m e e' : Nat} {d1 d2 : Int} {x y : DV} (ha : Dy w n1 A k c d1 x A' c') (hb : Dy w n2 B m e d2 y B' e') (hT : Tabs w) (hc : ¬ 0 < cmpD x y) :
    Calls Tryz.prog 67 #[dv n1 A k c d1, dv n2 B m e d2] w (IvOk (lo2 x y) (hi2 x y) w) := by
  obtain ⟨z, hz⟩ : ∃ z, cmpD x y = z := ⟨_, rfl⟩
  rw [hz] at hc
  have EZ := Lib.hid hz; clear hz
  have HA := Lib.hid ha; have HB := Lib.hid hb; have HT := Lib.hid hT; clear ha hb hT
  obtain ⟨X0, X1, XZ, XE⟩ := boxesM w n1 n2 A B k c m e d1 d2
  have HX0 := Lib.hid X0; have HX1 := Lib.hid X1; have HXZ := Lib.hid XZ; have HXE := Lib.hid XE
  clear X0 X1 XZ XE
  obtain ⟨⟨k0, k1, k2⟩, kz⟩ := HX0.out; obtain ⟨⟨l0, l1, l2⟩, lz⟩ := HX1.out
  go_enter Tryz.func67, Tryz.ntmps67
  go_wp2_with (go_at_call 31; (with_reducible refine (cmp_any (HA.out.ext HXE.out) (HB.out.ext HXE.out)).mono ?_); rw [EZ.out]; rintro e1 w1 ⟨rfl, hx⟩; have HY := Lib.hid (HXE.out.trans hx); have Z1 := Lib.hid (HXZ.out.ext hx); clear k0 k1 k2 kz l0 l1 l2 lz; obtain ⟨⟨k0, k1, k2⟩, kz⟩ := HX0.out.ext hx; obtain ⟨⟨l0, l1, l2⟩, lz⟩ := HX1.out.ext hx; clear hx)
  have EA := fun (W : World) (o : Obj) => Ext.alloc W o
  with_reducible refine (least1 (HA.out.ext (HY.out.trans (EA _ _))) (HB.out.ext (HY.out.trans (EA _ _))) (HT.out.ext (HY.out.trans (EA _ _))) (St.mk' (World.cell?_alloc_new _ _ _ 0) (World.cell?_alloc_new _ _ _ 1) (World.cell?_alloc_new _ _ _ 2))).mono ?_
  rintro e1 w4 ⟨A4, c4, B4, e4, rfl, hfa, hfb, hx⟩
  have FA := Lib.hid hfa; have FB := Lib.hid hfb; clear hfa hfb
  obtain ⟨⟨r0, r1, r2, r3, r4, r5⟩, rz⟩ := Z1.out.ext ((EA _ _).trans hx)
  have HF := Lib.hid (HY.out.trans ((EA _ _).trans hx))
  have hz := Z1.out.lt
  clear hx EA
  go_wp2_with fail
  exact bodyPost_ret (v := .tuple #[ivd (lo2 x y) A4 c4 (hi2 x y) B4 e4, .nilIface]) (by simp [results, Tryz.results67, go_sem, r0, r1, r2, r3, r4, r5]) rfl (IvOk.end6 rfl FA.out FB.out HF.out (by omega) (by (try simp); omega) (by (try simp); omega))
end Go.Proofs.YtcdkkohklhmpgaaGreatDoor

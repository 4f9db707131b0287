/- Intervals: the walks of the functions (written by gi.py). -/
import Derived.Test.YtbpcekibdnpkhaaGreatDoorIvcd
import Derived.Deep.RegionHeld3
import Derived.Deep.DeepCutAuto
import Derived.Test.YtbpcekibdnpkhaaGreatDoorIcmq
import Derived.Test.YtbpcekibdnpkhaaGreatDoorIvin
namespace Go.Proofs.YtbpcekibdnpkhaaGreatDoor

/-! ### Ivmk -/
section
open Go.RowKit
attribute [local go_sem ↓] Go.wp_at_zero Go.wp_at_succ

def IvOk (a b : DV) (w : World) (e : Ending) (w' : World) : Prop := ∃ A c B k, e = .returned (.tuple #[ivd a A c b B k, .nilIface]) ∧ Fr w' w.heap.size A (len a.m) c (dg a.m) ∧ Fr w' w.heap.size B (len b.m) k (dg b.m) ∧ Ext w w'
def IvErr (k : Int) (w : World) (e : Ending) (w' : World) : Prop := e = .returned (.tuple #[iv false none 0 0 0 false none 0 0 0, .iface 78 (I k)]) ∧ Ext w w'
theorem IvOk.end6 {a b : DV} {w w2 : World} {A B : Option Addr} {c k g b1 b2 : Nat} {e : Ending} {u0 u1 u2 u3 u4 u5 : Value} (he : e = .returned (.tuple #[ivd a A c b B k, .nilIface])) (ha : Fr w2 b1 A (len a.m) c (dg a.m)) (hb : Fr w2 b2 B (len b.m) k (dg b.m)) (hx : Ext w w2) (hg : w.heap.size ≤ g) (h1 : g < b1) (h2 : g < b2) :
    IvOk a b w e ((((((w2.setCell ⟨g, 0, none⟩ u0).setCell ⟨g, 1, none⟩ u1).setCell ⟨g, 2, none⟩ u2).setCell ⟨g, 3, none⟩ u3).setCell ⟨g, 4, none⟩ u4).setCell ⟨g, 5, none⟩ u5) :=
  ⟨A, c, B, k, he, (ha.set6 h1 _ _ _ _ _ _).mono (by omega), (hb.set6 h2 _ _ _ _ _ _).mono (by omega), ext_set6 hx hg _ _ _ _ _ _⟩
theorem boxesM (w : World) (n1 n2 : Bool) (A B : Option Addr) (k c m e : Nat) (d1 d2 : Int) :
    let W := ((w.alloc (.cells #[.bool n1, .slice A k c, I d1] 24)).alloc (.cells #[.bool n2, .slice B m e, I d2] 24)).alloc (.cells #[.bool false, .slice none 0 0, I 0, .bool false, .slice none 0 0, I 0] 26)
    Bx W w.heap.size (.bool n1) (.slice A k c) (I d1) ∧ Bx W (w.heap.size + 1) (.bool n2) (.slice B m e) (I d2) ∧ BZ W (w.heap.size + 1 + 1) ∧ Ext w W := by
  have s1 := ((Bx.new w (.bool n1) (.slice A k c) (I d1) 24).ext (Ext.alloc _ (.cells #[.bool n2, .slice B m e, I d2] 24))).ext (Ext.alloc _ (.cells #[.bool false, .slice none 0 0, I 0, .bool false, .slice none 0 0, I 0] 26))
  have s2 := (Bx.new (w.alloc (.cells #[.bool n1, .slice A k c, I d1] 24)) (.bool n2) (.slice B m e) (I d2) 24).ext (Ext.alloc _ (.cells #[.bool false, .slice none 0 0, I 0, .bool false, .slice none 0 0, I 0] 26))
  have s3 := B6.new ((w.alloc (.cells #[.bool n1, .slice A k c, I d1] 24)).alloc (.cells #[.bool n2, .slice B m e, I d2] 24)) (.bool false) (.slice none 0 0) (I 0) (.bool false) (.slice none 0 0) (I 0) 26
  rw [show (w.alloc (.cells #[.bool n1, .slice A k c, I d1] 24)).heap.size = w.heap.size + 1 by simp] at s2
  rw [show ((w.alloc (.cells #[.bool n1, .slice A k c, I d1] 24)).alloc (.cells #[.bool n2, .slice B m e, I d2] 24)).heap.size = w.heap.size + 1 + 1 by simp] at s3
  exact ⟨s1, s2, s3, ((Ext.alloc _ _).trans (Ext.alloc _ _)).trans (Ext.alloc _ _)⟩

set_option maxRecDepth 100000 in
set_option maxHeartbeats 1000000 in
theorem imake_err {w : World} {n1 n2 : Bool} {A A' B B' : Option Addr} {k c c' m e e' : Nat} {d1 d2 : Int} {x y : DV} (ha : Dy w n1 A k c d1 x A' c') (hb : Dy w n2 B m e d2 y B' e') (hc : 0 < cmpD x y) :
    Calls Tryz.prog 30 #[dv n1 A k c d1, dv n2 B m e d2] w (IvErr 3 w) := by
  obtain ⟨z, hz⟩ : ∃ z, cmpD x y = z := ⟨_, rfl⟩
  rw [hz] at hc
  have EZ := Lib.hid hz; clear hz
  have HA := Lib.hid ha; have HB := Lib.hid hb; clear ha hb
  obtain ⟨X0, X1, XZ, XE⟩ := boxesM w n1 n2 A B k c m e d1 d2
  have HX0 := Lib.hid X0; have HX1 := Lib.hid X1; have HXZ := Lib.hid XZ; have HXE := Lib.hid XE
  clear X0 X1 XZ XE
  obtain ⟨⟨k0, k1, k2⟩, kz⟩ := HX0.out; obtain ⟨⟨l0, l1, l2⟩, lz⟩ := HX1.out
  go_enter Tryz.func30, Tryz.ntmps30
  go_wp2_with (go_at_call 27; (with_reducible refine (cmp_any (HA.out.ext HXE.out) (HB.out.ext HXE.out)).mono ?_); rw [EZ.out]; rintro e1 w1 ⟨rfl, hx⟩; have HY := Lib.hid (HXE.out.trans hx); have Z1 := Lib.hid (HXZ.out.ext hx); clear k0 k1 k2 kz l0 l1 l2 lz; obtain ⟨⟨k0, k1, k2⟩, kz⟩ := HX0.out.ext hx; obtain ⟨⟨l0, l1, l2⟩, lz⟩ := HX1.out.ext hx; obtain ⟨⟨r0, r1, r2, r3, r4, r5⟩, rz⟩ := HXZ.out.ext hx; clear hx)
  exact bodyPost_ret (v := .tuple #[iv false none 0 0 0 false none 0 0 0, .iface 78 (I 3)]) (by simp [results, Tryz.results30, go_sem, r0, r1, r2, r3, r4, r5]) rfl ⟨rfl, ext_set6 HY.out (by omega) _ _ _ _ _ _⟩

set_option maxRecDepth 100000 in
set_option maxHeartbeats 1000000 in
theorem imake_ok {w : World} {n1 n2 : Bool} {A A' B B' : Option Addr} {k c c' m e e' : Nat} {d1 d2 : Int} {x y : DV} (ha : Dy w n1 A k c d1 x A' c') (hb : Dy w n2 B m e d2 y B' e') (hT : Tabs w) (hc : ¬ 0 < cmpD x y) :
    Calls Tryz.prog 30 #[dv n1 A k c d1, dv n2 B m e d2] w (IvOk (lo2 x y) (hi2 x y) w) := by
  obtain ⟨z, hz⟩ : ∃ z, cmpD x y = z := ⟨_, rfl⟩
  rw [hz] at hc
  have EZ := Lib.hid hz; clear hz
  have HA := Lib.hid ha; have HB := Lib.hid hb; have HT := Lib.hid hT; clear ha hb hT
  obtain ⟨X0, X1, XZ, XE⟩ := boxesM w n1 n2 A B k c m e d1 d2
  have HX0 := Lib.hid X0; have HX1 := Lib.hid X1; have HXZ := Lib.hid XZ; have HXE := Lib.hid XE
  clear X0 X1 XZ XE
  obtain ⟨⟨k0, k1, k2⟩, kz⟩ := HX0.out; obtain ⟨⟨l0, l1, l2⟩, lz⟩ := HX1.out
  go_enter Tryz.func30, Tryz.ntmps30
  go_wp2_with (go_at_call 27; (with_reducible refine (cmp_any (HA.out.ext HXE.out) (HB.out.ext HXE.out)).mono ?_); rw [EZ.out]; rintro e1 w1 ⟨rfl, hx⟩; have HY := Lib.hid (HXE.out.trans hx); have Z1 := Lib.hid (HXZ.out.ext hx); clear k0 k1 k2 kz l0 l1 l2 lz; obtain ⟨⟨k0, k1, k2⟩, kz⟩ := HX0.out.ext hx; obtain ⟨⟨l0, l1, l2⟩, lz⟩ := HX1.out.ext hx; clear hx)
  have EA := fun (W : World) (o : Obj) => Ext.alloc W o
  with_reducible refine (least1 (HA.out.ext (HY.out.trans (EA _ _))) (HB.out.ext (HY.out.trans (EA _ _))) (HT.out.ext (HY.out.trans (EA _ _))) (St.mk' (World.cell?_alloc_new _ _ _ 0) (World.cell?_alloc_new _ _ _ 1) (World.cell?_alloc_new _ _ _ 2))).mono ?_
  rintro e1 w4 ⟨A4, c4, B4, e4, rfl, hfa, hfb, hx⟩
  have FA := Lib.hid hfa; have FB := Lib.hid hfb; clear hfa hfb
  obtain ⟨⟨r0, r1, r2, r3, r4, r5⟩, rz⟩ := Z1.out.ext ((EA _ _).trans hx)
  have HF := Lib.hid (HY.out.trans ((EA _ _).trans hx))
  have hz := Z1.out.lt
  clear hx EA
  go_wp2_with fail
  exact bodyPost_ret (v := .tuple #[ivd (lo2 x y) A4 c4 (hi2 x y) B4 e4, .nilIface]) (by simp [results, Tryz.results30, go_sem, r0, r1, r2, r3, r4, r5]) rfl (IvOk.end6 rfl FA.out FB.out HF.out (by omega) (by (try simp); omega) (by (try simp); omega))
end

/-! ### Imq -/
section
open Go.RowKit

/-- An interval in an interval, all of them short. -/
def In4 (L H L' H' : DV) : Prop := End L ∧ End H ∧ L.q ≤ H.q ∧ End L' ∧ End H' ∧ L'.q ≤ H'.q ∧ insB L H L' H' = true
theorem in_of {L H L' H' : DV} (a1 : L.ok) (a2 : S1 L) (a3 : H.ok) (a4 : S1 H) (a5 : L.q ≤ H.q) (b1 : L'.ok) (b2 : S1 L') (b3 : H'.ok) (b4 : S1 H') (h1 : Btw L' H' L) (h2 : Btw L' H' H) : In4 L H L' H' := by
  refine ⟨⟨a1, a2⟩, ⟨a3, a4⟩, a5, ⟨b1, b2⟩, ⟨b3, b4⟩, Rat.le_trans h1.1 h1.2, ?_⟩
  unfold insB; rw [con_of b1 b3 a1 h1, con_of b1 b3 a3 h2]; rfl
/-- Two intervals, and a part of each. -/
structure Cy (a b x1 x2 c d y1 y2 : DV) : Prop where
  o0 : a.ok
  o1 : b.ok
  o2 : x1.ok
  o3 : x2.ok
  o4 : c.ok
  o5 : d.ok
  o6 : y1.ok
  o7 : y2.ok
  l0 : len a.m ≤ 5000
  l1 : len b.m ≤ 5000
  l2 : len x1.m ≤ 5000
  l3 : len x2.m ≤ 5000
  l4 : len c.m ≤ 5000
  l5 : len d.m ≤ 5000
  l6 : len y1.m ≤ 5000
  l7 : len y2.m ≤ 5000
  d0 : a.den ≤ 204
  d1 : b.den ≤ 204
  d2 : x1.den ≤ 204
  d3 : x2.den ≤ 204
  d4 : c.den ≤ 204
  d5 : d.den ≤ 204
  d6 : y1.den ≤ 204
  d7 : y2.den ≤ 204
  h1 : a.q ≤ x1.q
  h2 : x1.q ≤ x2.q
  h3 : x2.q ≤ b.q
  k1 : c.q ≤ y1.q
  k2 : y1.q ≤ y2.q
  k3 : y2.q ≤ d.q
section
variable {a b x1 x2 c d y1 y2 : DV}
theorem i_x (z : Cy a b x1 x2 c d y1 y2) : In4 x1 x2 a b := by
  obtain ⟨o0, o1, o2, o3, o4, o5, o6, o7, l0, l1, l2, l3, l4, l5, l6, l7, d0, d1, d2, d3, d4, d5, d6, d7, h1, h2, h3, k1, k2, k3⟩ := z
  have ba1 : Btw a b x1 := ⟨h1, Rat.le_trans h2 h3⟩
  have ba2 : Btw a b x2 := ⟨Rat.le_trans h1 h2, h3⟩
  have bc1 : Btw c d y1 := ⟨k1, Rat.le_trans k2 k3⟩
  have bc2 : Btw c d y2 := ⟨Rat.le_trans k1 k2, k3⟩
  exact in_of o2 (by show _ ≤ _; omega) o3 (by show _ ≤ _; omega) h2 o0 (by show _ ≤ _; omega) o1 (by show _ ≤ _; omega) ba1 ba2
theorem i_y (z : Cy a b x1 x2 c d y1 y2) : In4 y1 y2 c d := by
  obtain ⟨o0, o1, o2, o3, o4, o5, o6, o7, l0, l1, l2, l3, l4, l5, l6, l7, d0, d1, d2, d3, d4, d5, d6, d7, h1, h2, h3, k1, k2, k3⟩ := z
  have ba1 : Btw a b x1 := ⟨h1, Rat.le_trans h2 h3⟩
  have ba2 : Btw a b x2 := ⟨Rat.le_trans h1 h2, h3⟩
  have bc1 : Btw c d y1 := ⟨k1, Rat.le_trans k2 k3⟩
  have bc2 : Btw c d y2 := ⟨Rat.le_trans k1 k2, k3⟩
  exact in_of o6 (by show _ ≤ _; omega) o7 (by show _ ≤ _; omega) k2 o4 (by show _ ≤ _; omega) o5 (by show _ ≤ _; omega) bc1 bc2
theorem i_add (z : Cy a b x1 x2 c d y1 y2) : In4 (lo2 (addD x1 y1) (addD x2 y2)) (hi2 (addD x1 y1) (addD x2 y2)) (lo2 (addD a c) (addD b d)) (hi2 (addD a c) (addD b d)) := by
  obtain ⟨o0, o1, o2, o3, o4, o5, o6, o7, l0, l1, l2, l3, l4, l5, l6, l7, d0, d1, d2, d3, d4, d5, d6, d7, h1, h2, h3, k1, k2, k3⟩ := z
  have ba1 : Btw a b x1 := ⟨h1, Rat.le_trans h2 h3⟩
  have ba2 : Btw a b x2 := ⟨Rat.le_trans h1 h2, h3⟩
  have bc1 : Btw c d y1 := ⟨k1, Rat.le_trans k2 k3⟩
  have bc2 : Btw c d y2 := ⟨Rat.le_trans k1 k2, k3⟩
  have s0 : S1 (addD a c) := by have := lim_add (a := a) (b := c) (by omega) (by omega); show _ ≤ _; omega
  have s1 : S1 (addD b d) := by have := lim_add (a := b) (b := d) (by omega) (by omega); show _ ≤ _; omega
  have s2 : S1 (addD x1 y1) := by have := lim_add (a := x1) (b := y1) (by omega) (by omega); show _ ≤ _; omega
  have s3 : S1 (addD x2 y2) := by have := lim_add (a := x2) (b := y2) (by omega) (by omega); show _ ≤ _; omega
  have e1 : Btw (lo2 (addD a c) (addD b d)) (hi2 (addD a c) (addD b d)) (addD x1 y1) := c_add o0 o1 o2 ba1 o4 o5 o6 bc1
  have e2 : Btw (lo2 (addD a c) (addD b d)) (hi2 (addD a c) (addD b d)) (addD x2 y2) := c_add o0 o1 o3 ba2 o4 o5 o7 bc2
  exact in_of (lo2_ok (addD_ok _ _) (addD_ok _ _)) (sz_min (P := S1) s2 s3) (hi2_ok (addD_ok _ _) (addD_ok _ _)) (sz_max (P := S1) s2 s3) (lo2_le (addD_ok _ _) (addD_ok _ _)) (lo2_ok (addD_ok _ _) (addD_ok _ _)) (sz_min (P := S1) s0 s1) (hi2_ok (addD_ok _ _) (addD_ok _ _)) (sz_max (P := S1) s0 s1) (sz_min (P := Btw _ _) e1 e2) (sz_max (P := Btw _ _) e1 e2)
theorem i_min (z : Cy a b x1 x2 c d y1 y2) : In4 (lo2 (minD x1 y1) (minD x2 y2)) (hi2 (minD x1 y1) (minD x2 y2)) (lo2 (minD a c) (minD b d)) (hi2 (minD a c) (minD b d)) := by
  obtain ⟨o0, o1, o2, o3, o4, o5, o6, o7, l0, l1, l2, l3, l4, l5, l6, l7, d0, d1, d2, d3, d4, d5, d6, d7, h1, h2, h3, k1, k2, k3⟩ := z
  have ba1 : Btw a b x1 := ⟨h1, Rat.le_trans h2 h3⟩
  have ba2 : Btw a b x2 := ⟨Rat.le_trans h1 h2, h3⟩
  have bc1 : Btw c d y1 := ⟨k1, Rat.le_trans k2 k3⟩
  have bc2 : Btw c d y2 := ⟨Rat.le_trans k1 k2, k3⟩
  have s0 : S1 (minD a c) := sz_min (P := S1) (by show _ ≤ _; omega) (by show _ ≤ _; omega)
  have s1 : S1 (minD b d) := sz_min (P := S1) (by show _ ≤ _; omega) (by show _ ≤ _; omega)
  have s2 : S1 (minD x1 y1) := sz_min (P := S1) (by show _ ≤ _; omega) (by show _ ≤ _; omega)
  have s3 : S1 (minD x2 y2) := sz_min (P := S1) (by show _ ≤ _; omega) (by show _ ≤ _; omega)
  have e1 : Btw (lo2 (minD a c) (minD b d)) (hi2 (minD a c) (minD b d)) (minD x1 y1) := c_min o0 o1 o2 ba1 o4 o5 o6 bc1
  have e2 : Btw (lo2 (minD a c) (minD b d)) (hi2 (minD a c) (minD b d)) (minD x2 y2) := c_min o0 o1 o3 ba2 o4 o5 o7 bc2
  exact in_of (lo2_ok (minD_ok o2 o6) (minD_ok o3 o7)) (sz_min (P := S1) s2 s3) (hi2_ok (minD_ok o2 o6) (minD_ok o3 o7)) (sz_max (P := S1) s2 s3) (lo2_le (minD_ok o2 o6) (minD_ok o3 o7)) (lo2_ok (minD_ok o0 o4) (minD_ok o1 o5)) (sz_min (P := S1) s0 s1) (hi2_ok (minD_ok o0 o4) (minD_ok o1 o5)) (sz_max (P := S1) s0 s1) (sz_min (P := Btw _ _) e1 e2) (sz_max (P := Btw _ _) e1 e2)
theorem i_max (z : Cy a b x1 x2 c d y1 y2) : In4 (lo2 (maxD x1 y1) (maxD x2 y2)) (hi2 (maxD x1 y1) (maxD x2 y2)) (lo2 (maxD a c) (maxD b d)) (hi2 (maxD a c) (maxD b d)) := by
  obtain ⟨o0, o1, o2, o3, o4, o5, o6, o7, l0, l1, l2, l3, l4, l5, l6, l7, d0, d1, d2, d3, d4, d5, d6, d7, h1, h2, h3, k1, k2, k3⟩ := z
  have ba1 : Btw a b x1 := ⟨h1, Rat.le_trans h2 h3⟩
  have ba2 : Btw a b x2 := ⟨Rat.le_trans h1 h2, h3⟩
  have bc1 : Btw c d y1 := ⟨k1, Rat.le_trans k2 k3⟩
  have bc2 : Btw c d y2 := ⟨Rat.le_trans k1 k2, k3⟩
  have s0 : S1 (maxD a c) := sz_max (P := S1) (by show _ ≤ _; omega) (by show _ ≤ _; omega)
  have s1 : S1 (maxD b d) := sz_max (P := S1) (by show _ ≤ _; omega) (by show _ ≤ _; omega)
  have s2 : S1 (maxD x1 y1) := sz_max (P := S1) (by show _ ≤ _; omega) (by show _ ≤ _; omega)
  have s3 : S1 (maxD x2 y2) := sz_max (P := S1) (by show _ ≤ _; omega) (by show _ ≤ _; omega)
  have e1 : Btw (lo2 (maxD a c) (maxD b d)) (hi2 (maxD a c) (maxD b d)) (maxD x1 y1) := c_max o0 o1 o2 ba1 o4 o5 o6 bc1
  have e2 : Btw (lo2 (maxD a c) (maxD b d)) (hi2 (maxD a c) (maxD b d)) (maxD x2 y2) := c_max o0 o1 o3 ba2 o4 o5 o7 bc2
  exact in_of (lo2_ok (maxD_ok o2 o6) (maxD_ok o3 o7)) (sz_min (P := S1) s2 s3) (hi2_ok (maxD_ok o2 o6) (maxD_ok o3 o7)) (sz_max (P := S1) s2 s3) (lo2_le (maxD_ok o2 o6) (maxD_ok o3 o7)) (lo2_ok (maxD_ok o0 o4) (maxD_ok o1 o5)) (sz_min (P := S1) s0 s1) (hi2_ok (maxD_ok o0 o4) (maxD_ok o1 o5)) (sz_max (P := S1) s0 s1) (sz_min (P := Btw _ _) e1 e2) (sz_max (P := Btw _ _) e1 e2)
theorem i_sub (z : Cy a b x1 x2 c d y1 y2) : In4 (lo2 (addD x1 (lo2 (negD y1) (negD y2))) (addD x2 (hi2 (negD y1) (negD y2)))) (hi2 (addD x1 (lo2 (negD y1) (negD y2))) (addD x2 (hi2 (negD y1) (negD y2)))) (lo2 (addD a (lo2 (negD c) (negD d))) (addD b (hi2 (negD c) (negD d)))) (hi2 (addD a (lo2 (negD c) (negD d))) (addD b (hi2 (negD c) (negD d)))) := by
  obtain ⟨o0, o1, o2, o3, o4, o5, o6, o7, l0, l1, l2, l3, l4, l5, l6, l7, d0, d1, d2, d3, d4, d5, d6, d7, h1, h2, h3, k1, k2, k3⟩ := z
  have ba1 : Btw a b x1 := ⟨h1, Rat.le_trans h2 h3⟩
  have ba2 : Btw a b x2 := ⟨Rat.le_trans h1 h2, h3⟩
  have bc1 : Btw c d y1 := ⟨k1, Rat.le_trans k2 k3⟩
  have bc2 : Btw c d y2 := ⟨Rat.le_trans k1 k2, k3⟩
  have mu1 := lim_neg c; have mu2 := lim_neg d; have mu3 := den_neg (a := c) (by omega); have mu4 := den_neg (a := d) (by omega)
  have u1 := sz_min (P := fun d => len d.m ≤ 5000 ∧ d.den ≤ 204) (a := negD c) (b := negD d) ⟨by omega, by omega⟩ ⟨by omega, by omega⟩
  have u2 := sz_max (P := fun d => len d.m ≤ 5000 ∧ d.den ≤ 204) (a := negD c) (b := negD d) ⟨by omega, by omega⟩ ⟨by omega, by omega⟩
  have mv1 := lim_neg y1; have mv2 := lim_neg y2; have mv3 := den_neg (a := y1) (by omega); have mv4 := den_neg (a := y2) (by omega)
  have v1 := sz_min (P := fun d => len d.m ≤ 5000 ∧ d.den ≤ 204) (a := negD y1) (b := negD y2) ⟨by omega, by omega⟩ ⟨by omega, by omega⟩
  have v2 := sz_max (P := fun d => len d.m ≤ 5000 ∧ d.den ≤ 204) (a := negD y1) (b := negD y2) ⟨by omega, by omega⟩ ⟨by omega, by omega⟩
  have s0 : S1 (addD a (lo2 (negD c) (negD d))) := by have := lim_add (a := a) (b := minD (negD c) (negD d)) (by omega) (by have := u1.2; omega); have := u1.1; show len (addD a (minD (negD c) (negD d))).m ≤ _; omega
  have s1 : S1 (addD b (hi2 (negD c) (negD d))) := by have := lim_add (a := b) (b := maxD (negD c) (negD d)) (by omega) (by have := u2.2; omega); have := u2.1; show len (addD b (maxD (negD c) (negD d))).m ≤ _; omega
  have s2 : S1 (addD x1 (lo2 (negD y1) (negD y2))) := by have := lim_add (a := x1) (b := minD (negD y1) (negD y2)) (by omega) (by have := v1.2; omega); have := v1.1; show len (addD x1 (minD (negD y1) (negD y2))).m ≤ _; omega
  have s3 : S1 (addD x2 (hi2 (negD y1) (negD y2))) := by have := lim_add (a := x2) (b := maxD (negD y1) (negD y2)) (by omega) (by have := v2.2; omega); have := v2.1; show len (addD x2 (maxD (negD y1) (negD y2))).m ≤ _; omega
  have f (n : DV) (hn : n.ok) (bn : Btw a b n) : Btw (lo2 (addD a (lo2 (negD c) (negD d))) (addD b (hi2 (negD c) (negD d)))) (hi2 (addD a (lo2 (negD c) (negD d))) (addD b (hi2 (negD c) (negD d)))) (addD n (negD y1)) ∧ Btw (lo2 (addD a (lo2 (negD c) (negD d))) (addD b (hi2 (negD c) (negD d)))) (hi2 (addD a (lo2 (negD c) (negD d))) (addD b (hi2 (negD c) (negD d)))) (addD n (negD y2)) := ⟨c_sub o0 o1 hn bn o4 o5 o6 bc1, c_sub o0 o1 hn bn o4 o5 o7 bc2⟩
  have e1 : Btw (lo2 (addD a (lo2 (negD c) (negD d))) (addD b (hi2 (negD c) (negD d)))) (hi2 (addD a (lo2 (negD c) (negD d))) (addD b (hi2 (negD c) (negD d)))) (addD x1 (lo2 (negD y1) (negD y2))) := sz_min (P := fun n => Btw (lo2 (addD a (lo2 (negD c) (negD d))) (addD b (hi2 (negD c) (negD d)))) (hi2 (addD a (lo2 (negD c) (negD d))) (addD b (hi2 (negD c) (negD d)))) (addD x1 n)) (f x1 o2 ba1).1 (f x1 o2 ba1).2
  have e2 : Btw (lo2 (addD a (lo2 (negD c) (negD d))) (addD b (hi2 (negD c) (negD d)))) (hi2 (addD a (lo2 (negD c) (negD d))) (addD b (hi2 (negD c) (negD d)))) (addD x2 (hi2 (negD y1) (negD y2))) := sz_max (P := fun n => Btw (lo2 (addD a (lo2 (negD c) (negD d))) (addD b (hi2 (negD c) (negD d)))) (hi2 (addD a (lo2 (negD c) (negD d))) (addD b (hi2 (negD c) (negD d)))) (addD x2 n)) (f x2 o3 ba2).1 (f x2 o3 ba2).2
  exact in_of (lo2_ok (addD_ok _ _) (addD_ok _ _)) (sz_min (P := S1) s2 s3) (hi2_ok (addD_ok _ _) (addD_ok _ _)) (sz_max (P := S1) s2 s3) (lo2_le (addD_ok _ _) (addD_ok _ _)) (lo2_ok (addD_ok _ _) (addD_ok _ _)) (sz_min (P := S1) s0 s1) (hi2_ok (addD_ok _ _) (addD_ok _ _)) (sz_max (P := S1) s0 s1) (sz_min (P := Btw _ _) e1 e2) (sz_max (P := Btw _ _) e1 e2)
theorem i_mul (z : Cy a b x1 x2 c d y1 y2) : In4 (lo4 (lo2 (mulD x1 y1) (mulD x2 y1)) (hi2 (mulD x1 y1) (mulD x2 y1)) (lo2 (mulD x1 y2) (mulD x2 y2)) (hi2 (mulD x1 y2) (mulD x2 y2))) (hi4 (lo2 (mulD x1 y1) (mulD x2 y1)) (hi2 (mulD x1 y1) (mulD x2 y1)) (lo2 (mulD x1 y2) (mulD x2 y2)) (hi2 (mulD x1 y2) (mulD x2 y2))) (lo4 (lo2 (mulD a c) (mulD b c)) (hi2 (mulD a c) (mulD b c)) (lo2 (mulD a d) (mulD b d)) (hi2 (mulD a d) (mulD b d))) (hi4 (lo2 (mulD a c) (mulD b c)) (hi2 (mulD a c) (mulD b c)) (lo2 (mulD a d) (mulD b d)) (hi2 (mulD a d) (mulD b d))) := by
  obtain ⟨o0, o1, o2, o3, o4, o5, o6, o7, l0, l1, l2, l3, l4, l5, l6, l7, d0, d1, d2, d3, d4, d5, d6, d7, h1, h2, h3, k1, k2, k3⟩ := z
  have ba1 : Btw a b x1 := ⟨h1, Rat.le_trans h2 h3⟩
  have ba2 : Btw a b x2 := ⟨Rat.le_trans h1 h2, h3⟩
  have bc1 : Btw c d y1 := ⟨k1, Rat.le_trans k2 k3⟩
  have bc2 : Btw c d y2 := ⟨Rat.le_trans k1 k2, k3⟩
  have s0 : S1 (mulD a c) := by have := lim_mul a c; show _ ≤ _; omega
  have s1 : S1 (mulD b c) := by have := lim_mul b c; show _ ≤ _; omega
  have s2 : S1 (mulD a d) := by have := lim_mul a d; show _ ≤ _; omega
  have s3 : S1 (mulD b d) := by have := lim_mul b d; show _ ≤ _; omega
  have s4 : S1 (mulD x1 y1) := by have := lim_mul x1 y1; show _ ≤ _; omega
  have s5 : S1 (mulD x2 y1) := by have := lim_mul x2 y1; show _ ≤ _; omega
  have s6 : S1 (mulD x1 y2) := by have := lim_mul x1 y2; show _ ≤ _; omega
  have s7 : S1 (mulD x2 y2) := by have := lim_mul x2 y2; show _ ≤ _; omega
  have f (n m : DV) (bn : Btw a b n) (bm : Btw c d m) (hd : n.den + m.den ≤ 65536) : Btw (lo4 (lo2 (mulD a c) (mulD b c)) (hi2 (mulD a c) (mulD b c)) (lo2 (mulD a d) (mulD b d)) (hi2 (mulD a d) (mulD b d))) (hi4 (lo2 (mulD a c) (mulD b c)) (hi2 (mulD a c) (mulD b c)) (lo2 (mulD a d) (mulD b d)) (hi2 (mulD a d) (mulD b d))) (mulD n m) := c_mul bn bm (by omega) (by omega) (by omega) (by omega) hd
  have e0 := f x1 y1 ba1 bc1 (by omega)
  have e1 := f x2 y1 ba2 bc1 (by omega)
  have e2 := f x1 y2 ba1 bc2 (by omega)
  have e3 := f x2 y2 ba2 bc2 (by omega)
  have w1 : (lo2 (mulD x1 y1) (mulD x2 y1)).ok := lo2_ok mulD_okc mulD_okc; have w2 : (hi2 (mulD x1 y1) (mulD x2 y1)).ok := hi2_ok mulD_okc mulD_okc; have w3 : (lo2 (mulD x1 y2) (mulD x2 y2)).ok := lo2_ok mulD_okc mulD_okc; have w4 : (hi2 (mulD x1 y2) (mulD x2 y2)).ok := hi2_ok mulD_okc mulD_okc
  have r1 : (lo2 (mulD a c) (mulD b c)).ok := lo2_ok mulD_okc mulD_okc; have r2 : (hi2 (mulD a c) (mulD b c)).ok := hi2_ok mulD_okc mulD_okc; have r3 : (lo2 (mulD a d) (mulD b d)).ok := lo2_ok mulD_okc mulD_okc; have r4 : (hi2 (mulD a d) (mulD b d)).ok := hi2_ok mulD_okc mulD_okc
  exact in_of (lo4_ok w1 w2 w3 w4) (sz_min (P := S1) (sz_min (P := S1) (sz_min (P := S1) (sz_min (P := S1) s4 s5) (sz_max (P := S1) s4 s5)) (sz_min (P := S1) s6 s7)) (sz_max (P := S1) s6 s7)) (hi4_ok w1 w2 w3 w4) (sz_max (P := S1) (sz_max (P := S1) (sz_max (P := S1) (sz_min (P := S1) s4 s5) (sz_max (P := S1) s4 s5)) (sz_min (P := S1) s6 s7)) (sz_max (P := S1) s6 s7)) (lo4_le w1 w2 w3 w4) (lo4_ok r1 r2 r3 r4) (sz_min (P := S1) (sz_min (P := S1) (sz_min (P := S1) (sz_min (P := S1) s0 s1) (sz_max (P := S1) s0 s1)) (sz_min (P := S1) s2 s3)) (sz_max (P := S1) s2 s3)) (hi4_ok r1 r2 r3 r4) (sz_max (P := S1) (sz_max (P := S1) (sz_max (P := S1) (sz_min (P := S1) s0 s1) (sz_max (P := S1) s0 s1)) (sz_min (P := S1) s2 s3)) (sz_max (P := S1) s2 s3)) (sz_min (P := Btw (lo4 (lo2 (mulD a c) (mulD b c)) (hi2 (mulD a c) (mulD b c)) (lo2 (mulD a d) (mulD b d)) (hi2 (mulD a d) (mulD b d))) (hi4 (lo2 (mulD a c) (mulD b c)) (hi2 (mulD a c) (mulD b c)) (lo2 (mulD a d) (mulD b d)) (hi2 (mulD a d) (mulD b d)))) (sz_min (P := Btw (lo4 (lo2 (mulD a c) (mulD b c)) (hi2 (mulD a c) (mulD b c)) (lo2 (mulD a d) (mulD b d)) (hi2 (mulD a d) (mulD b d))) (hi4 (lo2 (mulD a c) (mulD b c)) (hi2 (mulD a c) (mulD b c)) (lo2 (mulD a d) (mulD b d)) (hi2 (mulD a d) (mulD b d)))) (sz_min (P := Btw (lo4 (lo2 (mulD a c) (mulD b c)) (hi2 (mulD a c) (mulD b c)) (lo2 (mulD a d) (mulD b d)) (hi2 (mulD a d) (mulD b d))) (hi4 (lo2 (mulD a c) (mulD b c)) (hi2 (mulD a c) (mulD b c)) (lo2 (mulD a d) (mulD b d)) (hi2 (mulD a d) (mulD b d)))) (sz_min (P := Btw (lo4 (lo2 (mulD a c) (mulD b c)) (hi2 (mulD a c) (mulD b c)) (lo2 (mulD a d) (mulD b d)) (hi2 (mulD a d) (mulD b d))) (hi4 (lo2 (mulD a c) (mulD b c)) (hi2 (mulD a c) (mulD b c)) (lo2 (mulD a d) (mulD b d)) (hi2 (mulD a d) (mulD b d)))) e0 e1) (sz_max (P := Btw (lo4 (lo2 (mulD a c) (mulD b c)) (hi2 (mulD a c) (mulD b c)) (lo2 (mulD a d) (mulD b d)) (hi2 (mulD a d) (mulD b d))) (hi4 (lo2 (mulD a c) (mulD b c)) (hi2 (mulD a c) (mulD b c)) (lo2 (mulD a d) (mulD b d)) (hi2 (mulD a d) (mulD b d)))) e0 e1)) (sz_min (P := Btw (lo4 (lo2 (mulD a c) (mulD b c)) (hi2 (mulD a c) (mulD b c)) (lo2 (mulD a d) (mulD b d)) (hi2 (mulD a d) (mulD b d))) (hi4 (lo2 (mulD a c) (mulD b c)) (hi2 (mulD a c) (mulD b c)) (lo2 (mulD a d) (mulD b d)) (hi2 (mulD a d) (mulD b d)))) e2 e3)) (sz_max (P := Btw (lo4 (lo2 (mulD a c) (mulD b c)) (hi2 (mulD a c) (mulD b c)) (lo2 (mulD a d) (mulD b d)) (hi2 (mulD a d) (mulD b d))) (hi4 (lo2 (mulD a c) (mulD b c)) (hi2 (mulD a c) (mulD b c)) (lo2 (mulD a d) (mulD b d)) (hi2 (mulD a d) (mulD b d)))) e2 e3)) (sz_max (P := Btw (lo4 (lo2 (mulD a c) (mulD b c)) (hi2 (mulD a c) (mulD b c)) (lo2 (mulD a d) (mulD b d)) (hi2 (mulD a d) (mulD b d))) (hi4 (lo2 (mulD a c) (mulD b c)) (hi2 (mulD a c) (mulD b c)) (lo2 (mulD a d) (mulD b d)) (hi2 (mulD a d) (mulD b d)))) (sz_max (P := Btw (lo4 (lo2 (mulD a c) (mulD b c)) (hi2 (mulD a c) (mulD b c)) (lo2 (mulD a d) (mulD b d)) (hi2 (mulD a d) (mulD b d))) (hi4 (lo2 (mulD a c) (mulD b c)) (hi2 (mulD a c) (mulD b c)) (lo2 (mulD a d) (mulD b d)) (hi2 (mulD a d) (mulD b d)))) (sz_max (P := Btw (lo4 (lo2 (mulD a c) (mulD b c)) (hi2 (mulD a c) (mulD b c)) (lo2 (mulD a d) (mulD b d)) (hi2 (mulD a d) (mulD b d))) (hi4 (lo2 (mulD a c) (mulD b c)) (hi2 (mulD a c) (mulD b c)) (lo2 (mulD a d) (mulD b d)) (hi2 (mulD a d) (mulD b d)))) (sz_min (P := Btw (lo4 (lo2 (mulD a c) (mulD b c)) (hi2 (mulD a c) (mulD b c)) (lo2 (mulD a d) (mulD b d)) (hi2 (mulD a d) (mulD b d))) (hi4 (lo2 (mulD a c) (mulD b c)) (hi2 (mulD a c) (mulD b c)) (lo2 (mulD a d) (mulD b d)) (hi2 (mulD a d) (mulD b d)))) e0 e1) (sz_max (P := Btw (lo4 (lo2 (mulD a c) (mulD b c)) (hi2 (mulD a c) (mulD b c)) (lo2 (mulD a d) (mulD b d)) (hi2 (mulD a d) (mulD b d))) (hi4 (lo2 (mulD a c) (mulD b c)) (hi2 (mulD a c) (mulD b c)) (lo2 (mulD a d) (mulD b d)) (hi2 (mulD a d) (mulD b d)))) e0 e1)) (sz_min (P := Btw (lo4 (lo2 (mulD a c) (mulD b c)) (hi2 (mulD a c) (mulD b c)) (lo2 (mulD a d) (mulD b d)) (hi2 (mulD a d) (mulD b d))) (hi4 (lo2 (mulD a c) (mulD b c)) (hi2 (mulD a c) (mulD b c)) (lo2 (mulD a d) (mulD b d)) (hi2 (mulD a d) (mulD b d)))) e2 e3)) (sz_max (P := Btw (lo4 (lo2 (mulD a c) (mulD b c)) (hi2 (mulD a c) (mulD b c)) (lo2 (mulD a d) (mulD b d)) (hi2 (mulD a d) (mulD b d))) (hi4 (lo2 (mulD a c) (mulD b c)) (hi2 (mulD a c) (mulD b c)) (lo2 (mulD a d) (mulD b d)) (hi2 (mulD a d) (mulD b d)))) e2 e3))
theorem i_hul (z : Cy a b x1 x2 c d y1 y2) : In4 (lo4 x1 x2 y1 y2) (hi4 x1 x2 y1 y2) (lo4 a b c d) (hi4 a b c d) := by
  obtain ⟨o0, o1, o2, o3, o4, o5, o6, o7, l0, l1, l2, l3, l4, l5, l6, l7, d0, d1, d2, d3, d4, d5, d6, d7, h1, h2, h3, k1, k2, k3⟩ := z
  have ba1 : Btw a b x1 := ⟨h1, Rat.le_trans h2 h3⟩
  have ba2 : Btw a b x2 := ⟨Rat.le_trans h1 h2, h3⟩
  have bc1 : Btw c d y1 := ⟨k1, Rat.le_trans k2 k3⟩
  have bc2 : Btw c d y2 := ⟨Rat.le_trans k1 k2, k3⟩
  have s0 : S1 a := (by show _ ≤ _; omega); have s1 : S1 b := (by show _ ≤ _; omega); have s2 : S1 x1 := (by show _ ≤ _; omega); have s3 : S1 x2 := (by show _ ≤ _; omega); have s4 : S1 c := (by show _ ≤ _; omega); have s5 : S1 d := (by show _ ≤ _; omega); have s6 : S1 y1 := (by show _ ≤ _; omega); have s7 : S1 y2 := (by show _ ≤ _; omega)
  have e1 := (c_hul o0 o1 ba1 o4 o5 bc1); have e2 := (c_hul o0 o1 ba2 o4 o5 bc2)
  exact in_of (lo4_ok o2 o3 o6 o7) (sz_min (P := S1) (sz_min (P := S1) (sz_min (P := S1) s2 s3) s6) s7) (hi4_ok o2 o3 o6 o7) (sz_max (P := S1) (sz_max (P := S1) (sz_max (P := S1) s2 s3) s6) s7) (lo4_le o2 o3 o6 o7) (lo4_ok o0 o1 o4 o5) (sz_min (P := S1) (sz_min (P := S1) (sz_min (P := S1) s0 s1) s4) s5) (hi4_ok o0 o1 o4 o5) (sz_max (P := S1) (sz_max (P := S1) (sz_max (P := S1) s0 s1) s4) s5) (sz_min (P := Btw (lo4 a b c d) (hi4 a b c d)) (sz_min (P := Btw (lo4 a b c d) (hi4 a b c d)) (sz_min (P := Btw (lo4 a b c d) (hi4 a b c d)) e1.1 e2.1) e1.2) e2.2) (sz_max (P := Btw (lo4 a b c d) (hi4 a b c d)) (sz_max (P := Btw (lo4 a b c d) (hi4 a b c d)) (sz_max (P := Btw (lo4 a b c d) (hi4 a b c d)) e1.1 e2.1) e1.2) e2.2)
theorem abs_facts {a b : DV} (la : len a.m ≤ 5000) (lb : len b.m ≤ 5000) : (absL a b).ok ∧ S1 (absL a b) ∧ (absH a b).ok ∧ S1 (absH a b) ∧ (absL a b).q ≤ (absH a b).q := by
  have n1 := len_absD a; have n2 := len_absD b
  have s1 : S1 (absD a) := by show _ ≤ _; omega
  have s2 : S1 (absD b) := by show _ ≤ _; omega
  have s3 : S1 DV.zero := by show len _ ≤ _; rw [zero_len]; decide
  unfold absL absH
  by_cases hz : conB a b DV.zero = true
  · rw [if_pos hz, if_pos hz]
    exact ⟨lo3_ok absD_okc absD_okc DV.zero_ok, sz_min (P := S1) (sz_min (P := S1) s1 s2) s3, hi3_ok absD_okc absD_okc DV.zero_ok, sz_max (P := S1) (sz_max (P := S1) s1 s2) s3, lo3_le absD_okc absD_okc DV.zero_ok⟩
  · rw [if_neg hz, if_neg hz]
    exact ⟨lo2_ok absD_okc absD_okc, sz_min (P := S1) s1 s2, hi2_ok absD_okc absD_okc, sz_max (P := S1) s1 s2, lo2_le absD_okc absD_okc⟩
theorem abs_btw {a b x : DV} (ha : a.ok) (hb : b.ok) (hx : x.ok) (h : Btw a b x) : Btw (absL a b) (absH a b) (absD x) := by
  unfold absL absH
  by_cases hz : conB a b DV.zero = true
  · rw [if_pos hz, if_pos hz]; exact c_abs3 ha hb hx h
  · rw [if_neg hz, if_neg hz]; exact c_abs2 ha hb hx h (fun hh => hz ((con_zero ha hb).2 hh))
theorem i_abs (z : Cy a b x1 x2 c d y1 y2) : In4 (absL x1 x2) (absH x1 x2) (absL a b) (absH a b) := by
  obtain ⟨o0, o1, o2, o3, o4, o5, o6, o7, l0, l1, l2, l3, l4, l5, l6, l7, d0, d1, d2, d3, d4, d5, d6, d7, h1, h2, h3, k1, k2, k3⟩ := z
  have ba1 : Btw a b x1 := ⟨h1, Rat.le_trans h2 h3⟩
  have ba2 : Btw a b x2 := ⟨Rat.le_trans h1 h2, h3⟩
  have bc1 : Btw c d y1 := ⟨k1, Rat.le_trans k2 k3⟩
  have bc2 : Btw c d y2 := ⟨Rat.le_trans k1 k2, k3⟩
  obtain ⟨p1, p2, p3, p4, p5⟩ := abs_facts l2 l3
  obtain ⟨q1, q2, q3, q4, _⟩ := abs_facts l0 l1
  have e1 := abs_btw o0 o1 o2 ba1
  have e2 := abs_btw o0 o1 o3 ba2
  have hL : Btw (absL a b) (absH a b) (absL x1 x2) ∧ Btw (absL a b) (absH a b) (absH x1 x2) := by
    have hz0 : DV.zero.q = 0 := qOf_zero _ _
    by_cases hz : conB x1 x2 DV.zero = true
    · have hz1 := (con_zero o2 o3).1 hz
      have bz : Btw a b DV.zero := by constructor <;> rw [hz0] <;> grind
      have e3 := abs_btw o0 o1 DV.zero_ok bz
      have e4 : Btw (absL a b) (absH a b) DV.zero := by
        have : (absD DV.zero).q = DV.zero.q := by rw [q_absD DV.zero_ok, hz0]; unfold mxQ; grind
        unfold Btw at *; rw [this] at e3; exact e3
      have g1 : absL x1 x2 = lo3 (absD x1) (absD x2) DV.zero := by unfold absL; rw [if_pos hz]
      have g2 : absH x1 x2 = hi3 (absD x1) (absD x2) DV.zero := by unfold absH; rw [if_pos hz]
      rw [g1, g2]
      exact ⟨sz_min (P := Btw (absL a b) (absH a b)) (sz_min (P := Btw (absL a b) (absH a b)) e1 e2) e4, sz_max (P := Btw (absL a b) (absH a b)) (sz_max (P := Btw (absL a b) (absH a b)) e1 e2) e4⟩
    · have g1 : absL x1 x2 = lo2 (absD x1) (absD x2) := by unfold absL; rw [if_neg hz]
      have g2 : absH x1 x2 = hi2 (absD x1) (absD x2) := by unfold absH; rw [if_neg hz]
      rw [g1, g2]
      exact ⟨sz_min (P := Btw (absL a b) (absH a b)) e1 e2, sz_max (P := Btw (absL a b) (absH a b)) e1 e2⟩
  exact in_of p1 p2 p3 p4 p5 q1 q2 q3 q4 hL.1 hL.2
theorem i_wid (z : Cy a b x1 x2 c d y1 y2) : cmpD (subD x2 x1) (subD b a) ≤ 0 ∧ (subD x2 x1).ok ∧ len (subD x2 x1).m ≤ 1048576 ∧ (subD b a).ok ∧ len (subD b a).m ≤ 1048576 := by
  obtain ⟨o0, o1, o2, o3, o4, o5, o6, o7, l0, l1, l2, l3, l4, l5, l6, l7, d0, d1, d2, d3, d4, d5, d6, d7, h1, h2, h3, k1, k2, k3⟩ := z
  have ba1 : Btw a b x1 := ⟨h1, Rat.le_trans h2 h3⟩
  have ba2 : Btw a b x2 := ⟨Rat.le_trans h1 h2, h3⟩
  have bc1 : Btw c d y1 := ⟨k1, Rat.le_trans k2 k3⟩
  have bc2 : Btw c d y2 := ⟨Rat.le_trans k1 k2, k3⟩
  have n1 := lim_sub (a := x2) (b := x1) (by omega) (by omega); have n2 := lim_sub (a := b) (b := a) (by omega) (by omega)
  refine ⟨(cmp_le (subD_ok _ _) (subD_ok _ _)).2 ?_, subD_ok _ _, by omega, subD_ok _ _, by omega⟩
  rw [q_subD o3 o2, q_subD o1 o0]; grind
end
end

end Go.Proofs.YtbpcekibdnpkhaaGreatDoor

/- Intervals: the walks of the functions (written by gi.py). -/
import Derived.Test.YtcdkkohklhmpgaaGreatDoorIvco
import Derived.Deep.RegionHeld3
import Derived.Deep.DeepCutAuto
namespace Go.Proofs.YtcdkkohklhmpgaaGreatDoor
open Go.RowKit
attribute [local go_sem ↓] Go.wp_at_zero Go.wp_at_succ

/-- What the first statement of Inside leaves. -/
def InI (w : World) (a b : DV) (A : Option Addr) (c : Nat) (B : Option Addr) (e : Nat) (n3 : Bool) (X : Option Addr) (p q : Nat) (d3 : Int) (n4 : Bool) (Y : Option Addr) (r s : Nat) (d4 : Int) (wx : World) : Prop :=
  Ext w wx ∧ BI wx w.heap.size a A c b B e ∧ B6 wx (w.heap.size + 1) (.bool n3) (.slice X p q) (I d3) (.bool n4) (.slice Y r s) (I d4)
theorem inI_of {w W0 W : World} {a b : DV} {A B X Y : Option Addr} {c e p q r s : Nat} {n3 n4 : Bool} {d3 d4 : Int} {v0 v1 v2 v3 v4 v5 : Value} (h0 : B6 W0 w.heap.size v0 v1 v2 v3 v4 v5) (h1 : B6 W0 (w.heap.size + 1) (.bool n3) (.slice X p q) (I d3) (.bool n4) (.slice Y r s) (I d4)) (hw : Ext w W0) (hx : Ext W0 W) :
    InI w a b A c B e n3 X p q d3 n4 Y r s d4 ((((((W.setCell ⟨w.heap.size, 0, none⟩ (.bool a.neg)).setCell ⟨w.heap.size, 1, none⟩ (.slice A (len a.m) c)).setCell ⟨w.heap.size, 2, none⟩ (I a.den)).setCell ⟨w.heap.size, 3, none⟩ (.bool b.neg)).setCell ⟨w.heap.size, 4, none⟩ (.slice B (len b.m) e)).setCell ⟨w.heap.size, 5, none⟩ (I b.den)) :=
  ⟨ext_set6 (hw.trans hx) (Nat.le_refl _) _ _ _ _ _ _, (h0.ext hx).set6 _ _ _ _ _ _, (h1.ext hx).far6 (by omega) _ _ _ _ _ _⟩
theorem boxesI (w : World) (n1 n2 : Bool) (A B : Option Addr) (k c m e : Nat) (d1 d2 : Int) (n3 n4 : Bool) (X Y : Option Addr) (p q r s : Nat) (d3 d4 : Int) :
    let W := (w.alloc (.cells #[.bool n1, .slice A k c, I d1, .bool n2, .slice B m e, I d2] 26)).alloc (.cells #[.bool n3, .slice X p q, I d3, .bool n4, .slice Y r s, I d4] 26)
    B6 W w.heap.size (.bool n1) (.slice A k c) (I d1) (.bool n2) (.slice B m e) (I d2) ∧ B6 W (w.heap.size + 1) (.bool n3) (.slice X p q) (I d3) (.bool n4) (.slice Y r s) (I d4) ∧ Ext w W := by
  have s1 := (B6.new w (.bool n1) (.slice A k c) (I d1) (.bool n2) (.slice B m e) (I d2) 26).ext (Ext.alloc _ (.cells #[.bool n3, .slice X p q, I d3, .bool n4, .slice Y r s, I d4] 26))
  have s2 := B6.new (w.alloc (.cells #[.bool n1, .slice A k c, I d1, .bool n2, .slice B m e, I d2] 26)) (.bool n3) (.slice X p q) (I d3) (.bool n4) (.slice Y r s) (I d4) 26
  rw [show (w.alloc (.cells #[.bool n1, .slice A k c, I d1, .bool n2, .slice B m e, I d2] 26)).heap.size = w.heap.size + 1 by simp] at s2
  exact ⟨s1, s2, (Ext.alloc _ _).trans (Ext.alloc _ _)⟩
/-- Does the interval from a to b lie in that from x to y? -/
def insB (a b x y : DV) : Bool := conB x y a && conB x y b
theorem insB_f {a b x y : DV} (h : conB x y a = false) : insB a b x y = false := by unfold insB; rw [h]; rfl
theorem insB_t {a b x y : DV} {z : Bool} (h : conB x y a = true) (h2 : conB x y b = z) : insB a b x y = z := by unfold insB; rw [h, h2]; rfl

set_option maxRecDepth 100000 in
set_option maxHeartbeats 1000000 in
theorem inside_any {w : World} {n1 n2 : Bool} {A B A' B' : Option Addr} {k c m e c' e' : Nat} {d1 d2 : Int} {a b : DV} {n3 n4 : Bool} {X Y X' Y' : Option Addr} {p q r s q' s' : Nat} {d3 d4 : Int} {x y : DV} (ha : Iw w n1 A k c d1 n2 B m e d2 a b A' c' B' e') (hb : Iw w n3 X p q d3 n4 Y r s d4 x y X' q' Y' s') :
    Calls Tryz.prog 59 #[iv n1 A k c d1 n2 B m e d2, iv n3 X p q d3 n4 Y r s d4] w fun e' w' => e' = .returned (.bool (insB a b x y)) ∧ Ext w w' := by
  obtain ⟨z, hz⟩ : ∃ z, conB x y b = z := ⟨_, rfl⟩
  cases hv : conB x y a with
  | true =>
    rw [insB_t hv hz]
    have Ev := Lib.hid hv; have Ez := Lib.hid hz; clear hv hz
    have HA := Lib.hid ha; have HB := Lib.hid hb; clear ha hb
    obtain ⟨X0, X1, XE⟩ := boxesI w n1 n2 A B k c m e d1 d2 n3 n4 X Y p q r s d3 d4
    have HX0 := Lib.hid X0; have HX1 := Lib.hid X1; have HXE := Lib.hid XE
    clear X0 X1 XE
    go_enter Tryz.func59, Tryz.ntmps59
    go_upto_region 1 with fail
    go_cut [] (fun wx => InI w a b A' c' B' e' n3 X p q d3 n4 Y r s d4 wx)
    case first =>
      obtain ⟨⟨k0, k1, k2, k3, k4, k5⟩, kz⟩ := HX0.out
      go_wp2_with (go_at_call 66; (with_reducible refine (HA.out.itv _ HXE.out).mono ?_); rintro e1 w1 ⟨rfl, hx⟩; clear k0 k1 k2 k3 k4 k5 kz; obtain ⟨⟨k0, k1, k2, k3, k4, k5⟩, kz⟩ := HX0.out.ext hx; have HX := Lib.hid hx; clear hx)
      go_meet
      exact inI_of HX0.out HX1.out HXE.out HX.out
    case rest =>
      clear HX0 HX1 HXE
      obtain ⟨hE, hX0, hX1⟩ := hcut
      have HE := Lib.hid hE; have HX0 := Lib.hid hX0; have HX1 := Lib.hid hX1
      clear hE hX0 hX1
      obtain ⟨⟨k0, k1, k2, k3, k4, k5⟩, kz⟩ := HX0.out
      obtain ⟨⟨l0, l1, l2, l3, l4, l5⟩, lz⟩ := HX1.out
      go_wp2_with (first
        | (have hg := X1; clear hg; go_at_call 46; (with_reducible refine (contains_any (HB.out.ext (HE.out.trans X1.out)) (HA.out.dyb.ext (HE.out.trans X1.out))).mono ?_); rw [Ez.out]; rintro e2 w2 ⟨rfl, hx⟩; have X2 := Lib.hid (X1.out.trans hx); clear hx)
        | (go_at_call 46; (with_reducible refine (contains_any (HB.out.ext (HE.out.trans (Ext.refl _))) (HA.out.dya.ext (HE.out.trans (Ext.refl _)))).mono ?_); rw [Ev.out]; rintro e1 w1 ⟨rfl, hx⟩; have X1 := Lib.hid hx; clear k0 k1 k2 k3 k4 k5 kz l0 l1 l2 l3 l4 l5 lz; obtain ⟨⟨k0, k1, k2, k3, k4, k5⟩, kz⟩ := HX0.out.ext hx; obtain ⟨⟨l0, l1, l2, l3, l4, l5⟩, lz⟩ := HX1.out.ext hx; clear hx))
      go_ret
      exact ⟨rfl, HE.out.trans X2.out⟩
  | false =>
    rw [insB_f hv]
    have Ev := Lib.hid hv; have Ez := Lib.hid hz; clear hv hz
    have HA := Lib.hid ha; have HB := Lib.hid hb; clear ha hb
    obtain ⟨X0, X1, XE⟩ := boxesI w n1 n2 A B k c m e d1 d2 n3 n4 X Y p q r s d3 d4
    have HX0 := Lib.hid X0; have HX1 := Lib.hid X1; have HXE := Lib.hid XE
    clear X0 X1 XE
    go_enter Tryz.func59, Tryz.ntmps59
    go_upto_region 1 with fail
    go_cut [] (fun wx => InI w a b A' c' B' e' n3 X p q d3 n4 Y r s d4 wx)
    case first =>
      obtain ⟨⟨k0, k1, k2, k3, k4, k5⟩, kz⟩ := HX0.out
      go_wp2_with (go_at_call 66; (with_reducible refine (HA.out.itv _ HXE.out).mono ?_); rintro e1 w1 ⟨rfl, hx⟩; clear k0 k1 k2 k3 k4 k5 kz; obtain ⟨⟨k0, k1, k2, k3, k4, k5⟩, kz⟩ := HX0.out.ext hx; have HX := Lib.hid hx; clear hx)
      go_meet
      exact inI_of HX0.out HX1.out HXE.out HX.out
    case rest =>
      clear HX0 HX1 HXE
      obtain ⟨hE, hX0, hX1⟩ := hcut
      have HE := Lib.hid hE; have HX0 := Lib.hid hX0; have HX1 := Lib.hid hX1
      clear hE hX0 hX1
      obtain ⟨⟨k0, k1, k2, k3, k4, k5⟩, kz⟩ := HX0.out
      obtain ⟨⟨l0, l1, l2, l3, l4, l5⟩, lz⟩ := HX1.out
      go_wp2_with (go_at_call 46; (with_reducible refine (contains_any (HB.out.ext (HE.out.trans (Ext.refl _))) (HA.out.dya.ext (HE.out.trans (Ext.refl _)))).mono ?_); rw [Ev.out]; rintro e1 w1 ⟨rfl, hx⟩; have X1 := Lib.hid hx; clear k0 k1 k2 k3 k4 k5 kz l0 l1 l2 l3 l4 l5 lz; obtain ⟨⟨k0, k1, k2, k3, k4, k5⟩, kz⟩ := HX0.out.ext hx; obtain ⟨⟨l0, l1, l2, l3, l4, l5⟩, lz⟩ := HX1.out.ext hx; clear hx)
      go_ret
      exact ⟨rfl, HE.out.trans X1.out⟩
end Go.Proofs.YtcdkkohklhmpgaaGreatDoor

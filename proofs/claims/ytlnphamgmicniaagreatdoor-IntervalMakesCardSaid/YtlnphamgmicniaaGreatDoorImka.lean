/- The law IntervalMakes (written by gimk.py). -/
import Derived.Test.YtlnphamgmicniaaGreatDoorIrms
import Derived.Test.YtlnphamgmicniaaGreatDoorIrci
import Derived.Test.YtlnphamgmicniaaGreatDoorIvsc
import Derived.Test.YtlnphamgmicniaaGreatDoorIvit
import Derived.Test.YtlnphamgmicniaaGreatDoorIvf
import Derived.Test.YtlnphamgmicniaaGreatDoorIvw
import Derived.Test.YtlnphamgmicniaaGreatDoorIvmx
import Derived.Deep.RegionHeld3
import Derived.Deep.DeepCutAuto
namespace Go.Proofs.YtlnphamgmicniaaGreatDoor
open Go.RowKit
attribute [local go_sem ↓] Go.wp_at_zero Go.wp_at_succ

theorem short6 {w : World} {g cap : Nat} {n0 n1 : Bool} {A0 A1 : Option Addr} {k0 k1 c0 c1 : Nat} {d0 d1 : Int} (h : S6 w g (.bool n0) (.slice A0 k0 c0) (I d0) (.bool n1) (.slice A1 k1 c1) (I d1)) {b : Bool} (hb : b = decide (shOk k0 d0 ∧ shOk k1 d1)) :
    Calls Tryz.prog 40 #[.slice (some ⟨g, 0, none⟩) 2 cap] w fun e w' => e = .returned (.bool b) ∧ Ext w w' :=
  short2 ⟨h.1, h.2.1, h.2.2.1⟩ h.2.2.2.1 h.2.2.2.2.1 h.2.2.2.2.2 hb
set_option maxHeartbeats 400000 in
theorem numI0 (w : World) : Calls Tryz.prog 10 #[.nilIface] w fun e w' => e = .returned (I 0) ∧ Ext w w' := by
  go_enter Tryz.func10, Tryz.ntmps10
  go_wp2
  go_ret
  exact ⟨rfl, Ext.refl _⟩
set_option maxHeartbeats 400000 in
theorem numI3 (w : World) : Calls Tryz.prog 10 #[.iface 69 (I 3)] w fun e w' => e = .returned (I 3) ∧ Ext w w' := by
  have ta := run_assert_int (P := Tryz.prog) (xT := 27) (v := I 3) (w := w) Tryz.underlying69
  go_enter Tryz.func10, Tryz.ntmps10
  go_wp2
  go_ret
  exact ⟨rfl, Ext.refl _⟩
/-- An interval whose words can be read. -/
def RdI (w : World) (u v : DV) (A : Option Addr) (_ : Nat) (B : Option Addr) (_ : Nat) : Prop := Rd w A (len u.m) (dg u.m) ∧ Rd w B (len v.m) (dg v.m)
theorem RdI.ext {w w' : World} {u v : DV} {A B : Option Addr} {c e : Nat} (h : RdI w u v A c B e) (x : Ext w w') : RdI w' u v A c B e := ⟨h.1.ext x, h.2.ext x⟩
theorem same_rd {w : World} {u v : DV} {A B X Y : Option Addr} {c e k l : Nat} (h : RdI w u v A c B e) (h' : RdI w u v X k Y l) (lu : len u.m ≤ 1073741824) (lv : len v.m ≤ 1073741824) :
    Calls Tryz.prog 15 #[ivd u A c v B e, ivd u X k v Y l] w fun e' w' => e' = .returned (.bool true) ∧ Ext w w' := isame_true h.1 h.2 h'.1 h'.2 lu lv
abbrev MkR (f : FuncId) (args : Array Value) (u v : DV) (ev : Value) (w : World) : Prop := Calls Tryz.prog f args w fun e w' => ∃ A c B k, e = .returned (.tuple #[ivd u A c v B k, ev]) ∧ RdI w' u v A c B k ∧ Ext w w'
/-- Make, in the code and in the reference: the same ends, and errors of one number. -/
theorem make_both {w : World} {n1 n2 : Bool} {A B A' B' : Option Addr} {k1 c1 e1 k2 c2 e2 : Nat} {d1 d2 : Int} {x y : DV} (ha : Dy w n1 A k1 c1 d1 x A' e1) (hb : Dy w n2 B k2 c2 d2 y B' e2) (bx : Bd x) (by' : Bd y) (hT : Tabs w) :
    ∃ (u v : DV) (ev : Value) (cd : Int), (∀ w', Ext w w' → MkR 41 #[dv n1 A k1 c1 d1, dv n2 B k2 c2 d2] u v ev w') ∧ (∀ w', Ext w w' → MkR 42 #[dv n1 A k1 c1 d1, dv n2 B k2 c2 d2] u v (I cd) w') ∧
      (∀ w', Calls Tryz.prog 10 #[ev] w' fun e w'' => e = .returned (I cd) ∧ Ext w' w'') ∧ len u.m ≤ 1073741824 ∧ len v.m ≤ 1073741824 := by
  by_cases h : 0 < cmpD x y
  · have e0 : len DV.zero.m = 0 := len_zero
    have er : ∀ w', RdI w' DV.zero DV.zero none 0 none 0 := fun w' => ⟨by rw [e0]; exact Rd.none_, by rw [e0]; exact Rd.none_⟩
    refine ⟨DV.zero, DV.zero, _, 3, fun w' e => (imake_err (ha.ext e) (hb.ext e) h).mono ?_, fun w' e => (rimake_err (ha.ext e) (hb.ext e) bx by' h).mono ?_, numI3, by rw [e0]; decide, by rw [e0]; decide⟩
    · rintro _ w'' ⟨rfl, hx⟩
      exact ⟨none, 0, none, 0, by show _ = Ending.returned (.tuple #[iv DV.zero.neg none (len DV.zero.m) 0 DV.zero.den DV.zero.neg none (len DV.zero.m) 0 DV.zero.den, _]); rw [e0]; rfl, er _, hx⟩
    · rintro _ w'' ⟨rfl, hx⟩
      exact ⟨none, 0, none, 0, by show _ = Ending.returned (.tuple #[iv DV.zero.neg none (len DV.zero.m) 0 DV.zero.den DV.zero.neg none (len DV.zero.m) 0 DV.zero.den, _]); rw [e0]; rfl, er _, hx⟩
  · have l1 := (sz_min (P := Bd) bx by').2
    have l2 := (sz_max (P := Bd) bx by').2
    refine ⟨lo2 x y, hi2 x y, _, 0, fun w' e => (imake_ok (ha.ext e) (hb.ext e) (hT.ext e) h).mono ?_, fun w' e => (rimake_ok (ha.ext e) (hb.ext e) bx by' h).mono ?_, numI0, Nat.le_trans l1 (by decide), Nat.le_trans l2 (by decide)⟩
    · rintro _ w'' ⟨A1, f1, B1, g1, rfl, fa, fb, hx⟩
      exact ⟨A1, f1, B1, g1, rfl, ⟨fa.rd, fb.rd⟩, hx⟩
    · rintro _ w'' ⟨A1, f1, B1, g1, rfl, fa, fb, hx⟩
      exact ⟨A1, f1, B1, g1, rfl, ⟨fa.rd, fb.rd⟩, hx⟩
theorem mk_boxes (w : World) (n1 n2 : Bool) (A B : Option Addr) (k1 c1 k2 c2 : Nat) (d1 d2 p q : Int) :
    let W := ((w.alloc (.cells #[.bool n1, .slice A k1 c1, I d1] 25)).alloc (.cells #[.bool n2, .slice B k2 c2, I d2] 25)).alloc (.cells #[I p, I q] 44)
    St W w.heap.size (.bool n1) (.slice A k1 c1) (I d1) ∧ St W (w.heap.size + 1) (.bool n2) (.slice B k2 c2) (I d2) ∧ (W.cell? ⟨w.heap.size + 1 + 1, 0, none⟩ = some (I p) ∧ W.cell? ⟨w.heap.size + 1 + 1, 1, none⟩ = some (I q)) ∧ Ext w W := by
  have s1 := ((St.new w (.bool n1) (.slice A k1 c1) (I d1) 25).ext (Ext.alloc _ (.cells #[.bool n2, .slice B k2 c2, I d2] 25))).ext (Ext.alloc _ (.cells #[I p, I q] 44))
  have s2 := (St.new (w.alloc (.cells #[.bool n1, .slice A k1 c1, I d1] 25)) (.bool n2) (.slice B k2 c2) (I d2) 25).ext (Ext.alloc _ (.cells #[I p, I q] 44))
  rw [show (w.alloc (.cells #[.bool n1, .slice A k1 c1, I d1] 25)).heap.size = w.heap.size + 1 by simp] at s2
  refine ⟨s1, s2, ⟨by go_simp, by go_simp⟩, ((Ext.alloc _ _).trans (Ext.alloc _ _)).trans (Ext.alloc _ _)⟩


set_option maxRecDepth 100000 in
set_option maxHeartbeats 4000000 in
theorem makes_off {w : World} {n1 n2 : Bool} {A B : Option Addr} {k1 c1 k2 c2 : Nat} {d1 d2 : Int} {p q : Int} (hT : Tabs w) (hP : TabP w) (h : ¬ (shOk k1 d1 ∧ shOk k2 d2)) :
    Calls Tryz.prog 5 #[dv n1 A k1 c1 d1, dv n2 B k2 c2 d2, .agg #[I p, I q]] w fun e w' => e = .returned (.bool true) ∧ Ext w w' := by
  have HT := Lib.hid hT; have HP := Lib.hid hP; clear hT hP
  have HB := Lib.hid (decide_eq_false h).symm
  clear h
  obtain ⟨s1, s2, s3, x0⟩ := mk_boxes w n1 n2 A B k1 c1 k2 c2 d1 d2 p q
  have X0 := Lib.hid x0; clear x0 s3
  obtain ⟨a0, a1, a2⟩ := s1
  obtain ⟨b0, b1, b2⟩ := s2
  generalize hW : ((w.alloc (.cells #[.bool n1, .slice A k1 c1, I d1] 25)).alloc (.cells #[.bool n2, .slice B k2 c2, I d2] 25)).alloc (.cells #[I p, I q] 44) = W0 at *
  go_enter Tryz.func5, Tryz.ntmps5
  go_upto_region 1 with fail
  (try rw [hW])
  clear hW
  go_wp2_with (first
    | (go_at_call 14; (with_reducible refine (iawake_any _ (HT.out.ext X1.out) (HP.out.ext X1.out)).mono ?_); rintro e w2 ⟨rfl, hx⟩; have X2 := Lib.hid (X1.out.trans hx); clear hx)
    | (go_at_call 40; (with_reducible refine (short6 (S6.new _ _ _ _ _ _ _ _) HB.out).mono ?_); rintro e w1 ⟨rfl, hx⟩; have X1 := Lib.hid ((X0.out.trans (Ext.alloc _ _)).trans hx); clear hx))
  go_ret
  exact ⟨rfl, X2.out⟩
end Go.Proofs.YtlnphamgmicniaaGreatDoor

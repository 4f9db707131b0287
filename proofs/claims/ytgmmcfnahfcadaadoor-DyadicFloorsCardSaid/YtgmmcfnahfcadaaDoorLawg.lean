/- The law DyadicFloors for other denominators. -/
import Derived.Test.YtgmmcfnahfcadaaDoorFlm
namespace Go.Proofs.YtgmmcfnahfcadaaDoor
open Go.RowKit

theorem same_zz {w : World} {A B : Option Addr} {c k : Nat} : Calls Tryd.prog 21 #[dv false A 0 c 0, dv false B 0 k 0] w fun e w' => e = .returned (.bool true) ∧ Ext w w' := by
  have := same_true (w := w) (d := DV.zero) (A := A) (B := B) (ca := c) (cb := k) (by rw [zero_len]; exact fun h => absurd h (Nat.lt_irrefl 0)) (by rw [zero_len]; exact fun h => absurd h (Nat.lt_irrefl 0)) (by rw [zero_len]; decide)
  rw [zero_len] at this
  exact this
set_option maxHeartbeats 400000 in
theorem is_t (k : Int) (w : World) : Calls Tryd.prog 47 #[.iface 46 (I k), I k] w fun e w' => e = .returned (.bool true) ∧ w = w' := by
  have ta := run_assert_int (P := Tryd.prog) (xT := 29) (v := I k) (w := w) Tryd.underlying46
  go_enter Tryd.func47, Tryd.ntmps47
  go_wp2
  go_ret
  exact ⟨rfl, rfl⟩

set_option maxRecDepth 100000 in
set_option maxHeartbeats 2000000 in
theorem floors_off {w : World} {na : Bool} {A : Option Addr} {a0 a1 : Nat} {da : Int} {nn : Int} (hT : Tabs w) (h : ¬ fewOk a0 da) :
    Calls Tryd.prog 7 #[dv na A a0 a1 da, I nn] w fun e w' => e = .returned (.bool true) ∧ Ext w w' := by
  have HT := Lib.hid hT; clear hT
  have HFW := Lib.hid (few1_not h)
  clear h
  go_enter Tryd.func7, Tryd.ntmps7
  go_wp2_with fail
  have HN := Lib.hid (nums1 (w.alloc (.cells #[.bool na, .slice A a0 a1, I da] 24)) (w.heap.size + 1) (by simp) na A a0 a1 da 24)
  with_reducible refine (few_false HN.out (by simp) (by omega) HFW.out).mono ?_
  rintro e wf ⟨rfl, hx⟩
  have HEF : Hid (Ext w wf) := (((Ext.alloc _ _).trans (Ext.alloc _ _))).trans hx
  clear hx
  go_wp2_with fail
  refine (awake_any _ (HT.out.ext HEF.out)).mono ?_
  rintro e w0 ⟨rfl, hx⟩
  have HEW := Lib.hid (HEF.out.trans hx)
  clear hx
  go_wp2_with fail
  go_ret
  exact ⟨rfl, HEW.out⟩

set_option maxRecDepth 100000 in
set_option maxHeartbeats 2000000 in
theorem floors_off2 {w : World} {na : Bool} {A : Option Addr} {a0 a1 : Nat} {da : Int} {nn : Int} (hT : Tabs w) (fa : fewOk a0 da) (hn1 : 400 < nn) (hn2 : nn ≤ 65536) :
    Calls Tryd.prog 7 #[dv na A a0 a1 da, I nn] w fun e w' => e = .returned (.bool true) ∧ Ext w w' := by
  have HT := Lib.hid hT; clear hT
  have HFW := Lib.hid (few1 fa)
  clear fa
  go_enter Tryd.func7, Tryd.ntmps7
  go_wp2_with fail
  have HN := Lib.hid (nums1 (w.alloc (.cells #[.bool na, .slice A a0 a1, I da] 24)) (w.heap.size + 1) (by simp) na A a0 a1 da 24)
  with_reducible refine (few_true HN.out (by simp) (by omega) HFW.out).mono ?_
  rintro e wf ⟨rfl, hx⟩
  have HEF : Hid (Ext w wf) := (((Ext.alloc _ _).trans (Ext.alloc _ _))).trans hx
  clear hx
  go_wp2_with fail
  refine (awake_any _ (HT.out.ext HEF.out)).mono ?_
  rintro e w0 ⟨rfl, hx⟩
  have HEW := Lib.hid (HEF.out.trans hx)
  clear hx
  go_wp2_with fail
  go_ret
  exact ⟨rfl, HEW.out⟩

set_option maxRecDepth 100000 in
set_option maxHeartbeats 2000000 in
theorem floors_bad {w : World} {na : Bool} {A A' : Option Addr} {a0 a1 a2 : Nat} {da : Int} {a : DV} (hha : Dy w na A a0 a1 da a A' a2) (hT : Tabs w) (k : Int) (hk : k < 0 ∨ 65536 < k) (fa : fewOk a0 da) :
    Calls Tryd.prog 7 #[dv na A a0 a1 da, I k] w fun e w' => e = .returned (.bool true) ∧ Ext w w' := by
  have HA0 := Lib.hid hha; have HT0 := Lib.hid hT; clear hha hT
  have HFW := Lib.hid (few1 fa)
  have HK := Lib.hid hk
  clear fa
  have Sa := Lib.hid (Bx.new w (.bool na) (.slice A a0 a1) (I da) 24).1
  rcases hk with hk | hk
  all_goals
    go_enter Tryd.func7, Tryd.ntmps7
    go_wp2_with fail
    have HN := Lib.hid (nums1 (w.alloc (.cells #[.bool na, .slice A a0 a1, I da] 24)) (w.heap.size + 1) (by simp) na A a0 a1 da 24)
    with_reducible refine (few_true HN.out (by simp) (by omega) HFW.out).mono ?_
    rintro e wf ⟨rfl, hx⟩
    have HEF : Hid (Ext w wf) := ((Ext.alloc _ _).trans (Ext.alloc _ _)).trans hx
    have Sb := Lib.hid ((Sa.out.ext (Ext.alloc _ _)).ext hx)
    clear hx HN HFW Sa
    go_wp2_with fail
    refine (awake_any _ (HT0.out.ext HEF.out)).mono ?_
    rintro e w0 ⟨rfl, hx⟩
    have X0 := Lib.hid (HEF.out.trans hx)
    have HT := Lib.hid (HT0.out.ext X0.out)
    have Sa := Lib.hid (Sb.out.ext hx)
    have HA := Lib.hid (HA0.out.ext X0.out)
    clear hx Sb HEF HT0 HA0
    obtain ⟨z0, z1, z2⟩ := Sa.out
    go_wp2_with (first
      | (have hg := Y2; clear hg; go_at_call 47; (with_reducible refine (is_t 3 _).mono ?_); rintro e w3 ⟨rfl, rfl⟩)
      | (have hg := Y3; clear hg; go_at_call 21; (with_reducible refine (same_zz).mono ?_); rintro e w4 ⟨rfl, hx⟩; have Y4 := Lib.hid (Y3.out.trans hx); clear hx)
      | (have hg := Y2; clear hg; go_at_call 21; (with_reducible refine (same_zz).mono ?_); rintro e w3 ⟨rfl, hx⟩; obtain ⟨z6, z7, z8⟩ := Sz2.out.ext hx; have Y3 := Lib.hid ((Y2.out.trans (Ext.alloc _ _)).trans hx); clear hx)
      | (have hg := Y1; clear hg; go_at_call 46; (with_reducible refine (ceil_err _ (HA.out.ext (Y1.out.trans (Ext.alloc _ _))) (HT.out.ext (Y1.out.trans (Ext.alloc _ _))) HK.out).mono ?_); rintro e w2 ⟨A2, c2, rfl, hx⟩; have Y2 := Lib.hid ((Y1.out.trans (Ext.alloc _ _)).trans hx); have Sz1 := Lib.hid (((St.new w1 (.bool false) (.slice none 0 0) (I 0) 24).ext hx).ext (Ext.alloc w2 (.cells #[.bool false, .slice A2 0 c2, I 0] 24))); have Sz2 := Lib.hid (St.new w2 (.bool false) (.slice A2 0 c2) (I 0) 24); obtain ⟨z3, z4, z5⟩ := Sz1.out; clear hx)
      | (go_at_call 16; (with_reducible refine (floor_err _ HK.out).mono ?_); rintro e w1 ⟨rfl, hx⟩; have Y1 := Lib.hid hx; obtain ⟨z0, z1, z2⟩ := Sa.out.ext (hx.trans (Ext.alloc _ (.cells #[.bool false, .slice none 0 0, I 0] 24))); clear hx))
    go_ret
    exact ⟨rfl, X0.out.trans Y4.out⟩

end Go.Proofs.YtgmmcfnahfcadaaDoor
